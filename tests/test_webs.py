"""[3]: ties, results, leads, meaning, beside, renumbered."""

import unittest
from itertools import permutations, product

from pilepass.errors import BadOrder, TooMany
from pilepass.webs import beside, leads, meaning, renumbered, results, ties, web_error
from tests.samples import EXAMPLE, NO_TUPLES, ExactTest, row, small_webs

IN = ("in", ())
SMALL = [web for many in (1, 2, 3) for web in small_webs(many) if web_error(web) is None]


class TiesTest(ExactTest):

    def test_example(self):
        self.check(ties(EXAMPLE), ((0, 2, 0), (0, 3, 1), (1, 2, 1), (2, 3, 0)))

    def test_no_ties(self):
        self.check(ties((IN,)), ())
        self.check(ties((IN,) * 10), ())

    def test_equal_inputs(self):
        self.check(ties((("pick", (1, 1, 1)), IN)), ((1, 0, 0), (1, 0, 1), (1, 0, 2)))
        self.check(ties((IN, ("*", (0, 0)))), ((0, 1, 0), (0, 1, 1)))

    def test_ascending_not_in_the_order_of_the_takers(self):
        web = (("+", (3, 2)), ("neg", (2,)), IN, IN)
        self.check(ties(web), ((2, 0, 1), (2, 1, 0), (3, 0, 0)))

    def test_numbers_of_two_digits_do_not_go_by_their_signs(self):
        self.check(ties(row(10)), tuple((step, step + 1, 0) for step in range(9)))

    def test_all_webs_of_few_steps(self):
        for web in SMALL:
            triples = product(range(len(web)), range(len(web)), range(2))
            told = [t for t in triples if web[t[1]][1][t[2]:t[2] + 1] == (t[0],)]
            self.check(ties(web=web), tuple(told))


class ResultsTest(ExactTest):

    def test_example(self):
        self.check(results(EXAMPLE), (3,))

    def test_all_steps_without_ties(self):
        self.check(results((IN, (4, ()), IN)), (0, 1, 2))

    def test_several_ascending(self):
        self.check(results((("neg", (2,)), ("-", (2, 2)), IN, (-5, ()))), (0, 1, 3))

    def test_all_webs_of_few_steps(self):
        for web in SMALL:
            told = [step for step in range(len(web)) if not any(step in inputs for _, inputs in web)]
            self.check(results(web=web), tuple(told))


def closure(web):
    """The pairs of steps of which one leads to the other, by joining rows of ties."""
    pairs = {(giver, taker) for taker, (_, inputs) in enumerate(web) for giver in inputs}
    for middle, one, other in product(range(len(web)), repeat=3):
        if (one, middle) in pairs and (middle, other) in pairs:
            pairs.add((one, other))
    return pairs


class LeadsTest(ExactTest):

    def test_example(self):
        pairs = [(one, other) for one in range(4) for other in range(4) if leads(EXAMPLE, one, other)]
        self.assertEqual(pairs, [(0, 2), (0, 3), (1, 2), (1, 3), (2, 3)])

    def test_no_step_leads_to_itself(self):
        for web in (EXAMPLE, row(10)):
            for step in range(len(web)):
                self.check(leads(web, step, step), False)

    def test_along_a_long_row_one_way_only(self):
        self.check(leads(row(10), 0, 9), True)
        self.check(leads(row(10), 9, 0), False)

    def test_not_by_ties_that_go_both_ways(self):
        web = (IN, IN, ("+", (0, 1)))
        self.check(leads(web, 0, 1), False)
        self.check(leads(web, 1, 0), False)

    def test_all_webs_of_few_steps(self):
        for web in SMALL:
            pairs = closure(web)
            for one, other in product(range(len(web)), repeat=2):
                self.check(leads(web=web, one=one, other=other), (one, other) in pairs)


class MeaningTest(ExactTest):

    def test_example(self):
        self.check(meaning(EXAMPLE, (5, 7)), (60,))

    def test_each_kind(self):
        two = (IN, IN)
        self.check(meaning((IN,), (5,)), (5,))
        self.check(meaning(((-99, ()), (0, ()), (99, ())), ()), (-99, 0, 99))
        self.check(meaning((IN, ("neg", (0,))), (5,)), (-5,))
        self.check(meaning((IN, ("neg", (0,))), (-5,)), (5,))
        self.check(meaning((IN, ("neg", (0,))), (0,)), (0,))
        self.check(meaning(two + (("+", (0, 1)),), (5, -7)), (-2,))
        self.check(meaning(two + (("-", (0, 1)),), (5, 7)), (-2,))
        self.check(meaning(two + (("-", (1, 0)),), (5, 7)), (2,))
        self.check(meaning(two + (("*", (0, 1)),), (5, -7)), (-35,))

    def test_pick_asks_whether_the_first_is_above_zero(self):
        web = (IN, IN, IN, ("pick", (0, 1, 2)))
        for first, told in ((1, 20), (2, 20), (10 ** 39, 20), (0, 30), (-1, 30), (-10 ** 39, 30)):
            self.check(meaning(web, (first, 20, 30)), (told,))

    def test_equal_inputs(self):
        self.check(meaning((IN, ("-", (0, 0))), (8,)), (0,))
        self.check(meaning((IN, ("*", (0, 0))), (-8,)), (64,))
        self.check(meaning((IN, ("pick", (0, 0, 0))), (-8,)), (-8,))

    def test_worths_go_to_the_in_steps_ascending(self):
        web = (("-", (3, 1)), IN, (7, ()), IN, IN)
        self.check(meaning(web, (100, 20, 3)), (-80, 7, 3))

    def test_inputs_that_stand_behind(self):
        web = (("neg", (1,)), ("neg", (2,)), ("+", (3, 3)), IN)
        self.check(meaning(web, (21,)), (42,))

    def test_worths_of_forty_digits(self):
        one, other = 10 ** 40 - 1, -(10 ** 39 + 7)
        web = (IN, IN, ("+", (0, 1)), ("-", (0, 1)), ("*", (0, 1)))
        self.check(meaning(web, (one, other)), (one + other, one - other, one * other))

    def test_exact_results_of_any_size(self):
        web = (IN,) + tuple(("*", (step, step)) for step in range(9))
        worth = 10 ** 40 - 1
        self.check(meaning(web, (worth,)), (worth ** 512,))

    def test_results_in_ascending_order(self):
        web = (("neg", (2,)), ("*", (2, 2)), IN)
        self.check(meaning(web=web, worths=(3,)), (-3, 9))


class BesideTest(ExactTest):

    def test_inputs_of_the_other_move_and_kinds_do_not(self):
        other = ((1, ()), ("neg", (0,)), ("pick", (1, 0, 1)))
        told = EXAMPLE + ((1, ()), ("neg", (4,)), ("pick", (5, 4, 5)))
        self.check(beside(EXAMPLE, other), told)
        self.check(beside(web=EXAMPLE, other=other), told)

    def test_first_web_stands_first(self):
        self.check(beside(((3, ()),), EXAMPLE), ((3, ()), IN, IN, ("+", (1, 2)), ("*", (3, 1))))

    def test_a_web_beside_itself(self):
        self.check(beside(row(2), row(2)), (IN, ("neg", (0,)), IN, ("neg", (2,))))

    def test_exactly_max_steps(self):
        for first in range(1, 10):
            web = beside(row(first), row(10 - first))
            self.check(web_error(web), None)
            self.check(len(web), 10)
            self.check(results(web), (first - 1, 9))

    def test_more_than_max_steps(self):
        for first in range(1, 11):
            with self.assertRaises(TooMany):
                beside(row(first), row(11 - first))
        with self.assertRaises(TooMany):
            beside((IN,) * 10, (IN,) * 10)

    def test_meaning_is_that_of_both(self):
        web = beside(EXAMPLE, (IN, ("neg", (0,))))
        self.check(meaning(web, (5, 7, 9)), (60, -9))


class RenumberedTest(ExactTest):

    def test_example(self):
        told = (("*", (1, 3)), ("+", (3, 2)), IN, IN)
        self.check(renumbered(EXAMPLE, (3, 2, 1, 0)), told)
        self.check(renumbered(web=EXAMPLE, value=(3, 2, 1, 0)), told)

    def test_value_tells_old_numbers_not_new_ones(self):
        web = ((10, ()), (20, ()), ("-", (0, 1)))
        self.check(renumbered(web, (1, 2, 0)), ((20, ()), ("-", (2, 0)), (10, ())))
        self.check(renumbered(web, (2, 0, 1)), (("-", (1, 2)), (10, ()), (20, ())))

    def test_same_numbers(self):
        for web in (EXAMPLE, row(10), ((1, ()),)):
            self.check(renumbered(web, tuple(range(len(web)))), web)

    def test_there_and_back(self):
        for value in permutations(range(4)):
            back = tuple(value.index(step) for step in range(4))
            web = renumbered(EXAMPLE, value)
            self.check(web_error(web), None)
            self.check(tuple(kind for kind, _ in web), tuple(EXAMPLE[step][0] for step in value))
            self.check(renumbered(web, back), EXAMPLE)

    def test_kinds_are_not_renumbered(self):
        self.check(renumbered(((1, ()), (0, ())), (1, 0)), ((0, ()), (1, ())))

    def refuse(self, web, value):
        with self.assertRaises(BadOrder):
            renumbered(web, value)

    def test_no_tuples(self):
        for value in NO_TUPLES:
            self.refuse((IN,), value)
            self.refuse((IN, IN), value)
        self.refuse(EXAMPLE, [0, 1, 2, 3])
        self.refuse(EXAMPLE, {0: 0, 1: 1, 2: 2, 3: 3})
        self.refuse(EXAMPLE, "0123")

    def test_not_each_step_just_once(self):
        for value in ((), (0,), (0, 1, 2), (0, 1, 2, 3, 3), (0, 0, 1, 2), (0, 1, 2, 2), (1, 2, 3, 4),
                      (-1, 0, 1, 2), (0, 1, 2, -1), (0, 1, 2, 4), (0, 1, 2, 3, 4), (3,) * 4, tuple(range(1000))):
            self.refuse(EXAMPLE, value)

    def test_items_that_are_no_integers(self):
        for item in (*NO_TUPLES, (), (3,)):
            if item not in (0, 1, 2, 3) or isinstance(item, bool):
                self.refuse(EXAMPLE, (0, 1, 2, item))
                self.refuse(EXAMPLE, (item, 2, 1, 0))
        self.refuse(EXAMPLE, ((0, 1, 2, 3),))
        self.refuse(EXAMPLE, ("0", "1", "2", "3"))

    def test_true_and_false_are_no_step_numbers(self):
        self.refuse(EXAMPLE, (0, True, 2, 3))
        self.refuse(EXAMPLE, (False, 1, 2, 3))
        self.refuse((IN, IN), (True, False))
        self.refuse((IN,), (False,))

    def test_nothing_is_changed(self):
        value = [[0, 1], {2: 3}]
        self.refuse(EXAMPLE, value)
        self.refuse(EXAMPLE, (value, 1, 2, 3))
        self.assertEqual(value, [[0, 1], {2: 3}])


class EqualCallsTest(ExactTest):

    def test_equal_calls_return_equal_results(self):
        for call in (ties, results, web_error):
            self.check(call(EXAMPLE), call(tuple(list(EXAMPLE))))
        self.check(meaning(EXAMPLE, (5, 7)), meaning(EXAMPLE, (5, 7)))

    def test_true_in_a_value_does_not_stand_for_an_earlier_one(self):
        self.check(web_error(((1, ()),)), None)
        self.check(web_error(((True, ()),)), (0, "kind"))
        self.check(web_error(((1, ()),)), None)


if __name__ == "__main__":
    unittest.main()
