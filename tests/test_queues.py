"""[9]: queue_error, queue_order_of, queue_orders, queue_count, queue_program, run_queue."""

import inspect
import unittest
from itertools import permutations, product

from pilepass.bounds import MAX_COPIES
from pilepass.errors import Left, Short
from pilepass.looms import Loom
from pilepass.queues import (
    queue_count, queue_error, queue_order_of, queue_orders, queue_program, run_queue,
)
from tests.samples import (
    AROUND, CROSSED, EXAMPLE, NO_TUPLES, SQUARE, UNCLOSED, ExactTest, nested, row, side_by_side, with_a_part_replaced,
)
from tests.slow import slow_is_plain, slow_machine, slow_queue_error, slow_queue_orders

IN = ("in", ())
PAIR = (IN, ("neg", (0,)))
# The other example of [9], that has no right order but two queue orders.
WEDGE = (IN, ("neg", (0,)), ("neg", (0,)), ("+", (1, 2)))
# The tie from 0 to 3 would nest that from 1 to 2 in the only order of the steps.
NESTED = (IN, ("neg", (0,)), ("neg", (1,)), ("+", (2, 0)))


class QueueErrorTest(ExactTest):

    def told(self, web, value, error):
        """queue_error tells this, by position and by name."""
        self.check(queue_error(web, value), error)
        self.check(queue_error(web=web, value=value), error)

    def test_examples(self):
        self.told(EXAMPLE, (1, 0, 2, 3), None)
        self.told(EXAMPLE, (0, 1, 2, 3), ("nest", (0, 3, 1), (1, 2, 1)))
        self.told(WEDGE, (0, 1, 2, 3), None)
        self.told(WEDGE, (0, 2, 1, 3), None)

    def test_one_step(self):
        self.told((IN,), (0,), None)
        for value in ((), (1,), (0, 0), (-1,)):
            self.told((IN,), value, ("order",))

    def test_steps_without_a_tie(self):
        for value in permutations(range(4)):
            self.told((IN,) * 4, value, None)
        self.told((IN,) * 10, tuple(range(9, -1, -1)), None)

    def test_no_tuples(self):
        for value in NO_TUPLES + (Loom(EXAMPLE), queue_orders(EXAMPLE), [1, 0, 2, 3], "1023", nested(11), ((1, 0),)):
            self.told(EXAMPLE, value, ("order",))
            self.told((IN,), value, ("order",))

    def test_not_each_step_just_once(self):
        for value in ((), (0,), (0, 1, 2), (0, 1, 2, 3, 4), (1, 0, 2, 3, 3), (0, 0, 1, 2), (1, 2, 3, 4), (-1, 0, 1, 2),
                      (1, 0, 2, 10 ** 39), (3,) * 4, tuple(range(1000)), (1, 0, 2, None), (1, 0, (2, 3))):
            self.told(EXAMPLE, value, ("order",))

    def test_parts_replaced(self):
        for value in with_a_part_replaced((1, 0, 2, 3)):
            whole = isinstance(value, tuple) and sorted(map(repr, value)) == ["0", "1", "2", "3"]
            self.told(EXAMPLE, value, slow_queue_error(EXAMPLE, value) if whole else ("order",))

    def test_true_and_false_are_no_step_numbers(self):
        for value in ((True, 0, 2, 3), (1, False, 2, 3)):
            self.told(EXAMPLE, value, ("order",))
        self.told((IN, IN), (True, False), ("order",))
        self.told((IN,), (False,), ("order",))

    def test_late_tells_the_least_tie(self):
        self.told(EXAMPLE, (3, 2, 1, 0), ("late", (0, 2, 0)))
        self.told(EXAMPLE, (0, 2, 1, 3), ("late", (1, 2, 1)))
        self.told(EXAMPLE, (1, 0, 3, 2), ("late", (2, 3, 0)))
        self.told(row(10), tuple(range(9, -1, -1)), ("late", (0, 1, 0)))
        self.told((("pick", (1, 1, 1)), IN), (0, 1), ("late", (1, 0, 0)))

    def test_late_comes_ahead_of_nest(self):
        web = EXAMPLE + (("neg", (3,)),)
        self.told(web, (0, 1, 2, 3, 4), ("nest", (0, 3, 1), (1, 2, 1)))
        self.told(web, (0, 1, 2, 4, 3), ("late", (3, 4, 0)))

    def test_nest_tells_the_least_pair(self):
        web = (IN, IN, ("+", (0, 0)), ("*", (1, 1)))
        self.told(web, (1, 0, 2, 3), ("nest", (1, 3, 0), (0, 2, 0)))
        self.told(web, (0, 1, 3, 2), ("nest", (0, 2, 0), (1, 3, 0)))
        self.told(web, (0, 1, 2, 3), None)
        # The tie that nests is told first, and of several ones the least, not the longest.
        web = (IN, IN, IN, ("neg", (0,)), ("neg", (1,)), ("neg", (2,)))
        self.told(web, (2, 1, 0, 3, 4, 5), ("nest", (1, 4, 0), (0, 3, 0)))
        self.told(web, (0, 1, 2, 5, 4, 3), ("nest", (0, 3, 0), (1, 4, 0)))
        self.told(web, (0, 2, 1, 4, 5, 3), ("nest", (0, 3, 0), (1, 4, 0)))

    def test_ties_that_share_a_step_do_not_nest(self):
        self.told((IN,) + (("neg", (0,)),) * 3, (0, 3, 1, 2), None)
        self.told((IN, IN, IN, ("pick", (1, 0, 2))), (2, 0, 1, 3), None)
        self.told((IN, ("pick", (0, 0, 0)), ("+", (1, 0))), (0, 1, 2), None)

    def test_ties_that_cross_do_not_nest(self):
        web = side_by_side(PAIR, PAIR)
        self.told(web, (0, 2, 1, 3), None)
        self.told(web, (0, 2, 3, 1), ("nest", (0, 1, 0), (2, 3, 0)))

    def test_nothing_is_changed(self):
        value = [[0, 1], {2: 3}]
        queue_error(EXAMPLE, value)
        queue_error(EXAMPLE, (value, 1, 2, 3))
        self.assertEqual(value, [[0, 1], {2: 3}])


class QueueOrdersTest(ExactTest):

    def told(self, web, found):
        """These are all queue orders, for all that tells of them, by position and by name."""
        self.check(tuple(queue_orders(web)), found)
        self.check(tuple(queue_orders(web=web)), found)
        self.check(queue_order_of(web), found[0] if found else None)
        self.check(queue_order_of(web=web), found[0] if found else None)
        self.check(queue_count(web), len(found))
        self.check(queue_count(web=web), len(found))

    def test_examples(self):
        self.told(EXAMPLE, ((1, 0, 2, 3),))
        self.told(WEDGE, ((0, 1, 2, 3), (0, 2, 1, 3)))

    def test_one_step(self):
        self.told((IN,), ((0,),))

    def test_steps_without_a_tie(self):
        self.told((IN,) * 3, ((0, 1, 2), (0, 2, 1), (1, 0, 2), (1, 2, 0), (2, 0, 1), (2, 1, 0)))

    def test_no_queue_order(self):
        for web in (NESTED, side_by_side((IN,), NESTED), side_by_side(NESTED, PAIR)):
            self.told(web, ())

    def test_one_queue_order_of_ten_steps(self):
        self.told(row(10), (tuple(range(10)),))
        self.told((("neg", (1,)), ("neg", (2,)), IN), ((2, 1, 0),))

    def test_two_pairs(self):
        # (0, 2, 3, 1) and (2, 0, 1, 3) would nest.
        self.told(side_by_side(PAIR, PAIR), ((0, 1, 2, 3), (0, 2, 1, 3), (2, 0, 3, 1), (2, 3, 0, 1)))

    def test_several_ties_from_one_giver_to_one_taker(self):
        self.told((("pick", (1, 1, 1)), IN), ((1, 0),))
        self.told((IN, ("pick", (0, 0, 0)), ("+", (0, 1))), ((0, 1, 2),))

    def test_webs_with_a_bar(self):
        for web in (SQUARE, AROUND, CROSSED, UNCLOSED):
            self.told(web, slow_queue_orders(web))
        self.check(queue_count(SQUARE), 0)
        self.check(queue_count(UNCLOSED), 1)

    def test_counts_of_webs_with_very_many_orders(self):
        self.check(queue_count((IN,) * 10), 3628800)
        self.check(queue_count((IN,) + (("neg", (0,)),) * 9), 362880)
        self.check(queue_count((IN,) * 8 + PAIR[:1] + (("neg", (8,)),)), 1814400)
        # Pairs begin in any order and end in the same one: 5! times the ways to nest brackets, which are 42.
        self.check(queue_count(side_by_side(*[PAIR] * 5)), 5040)

    def test_queue_orders_is_a_generator(self):
        self.assertTrue(inspect.isgeneratorfunction(queue_orders))
        self.assertTrue(inspect.isgenerator(queue_orders(EXAMPLE)))

    def test_first_orders_of_very_many(self):
        found = queue_orders((IN,) * 10)
        self.check(next(found), tuple(range(10)))
        self.check(next(found), (0, 1, 2, 3, 4, 5, 6, 7, 9, 8))

    def test_generators_do_not_disturb_one_another(self):
        web = side_by_side(PAIR, PAIR, (IN,) * 3)
        whole = list(queue_orders(web))
        self.assertGreater(len(whole), 500)
        one, other, left_behind = queue_orders(web), queue_orders(web), queue_orders(web)
        self.check([next(left_behind) for _ in range(3)], whole[:3])
        found = []
        for place, order in enumerate(one):
            self.check(order, whole[place])
            if place % 3:
                found.append(next(other))
        self.check(found, whole[:len(found)])
        self.check(queue_count(web), len(whole))
        self.check(list(other), whole[len(found):])
        self.check(list(other), [])
        self.check(next(left_behind), whole[3])

    def test_equal_calls_return_equal_results(self):
        for web in (EXAMPLE, WEDGE, SQUARE, NESTED, UNCLOSED):
            copy = tuple(list(web))
            self.check(list(queue_orders(web)), list(queue_orders(copy)))
            self.check(queue_order_of(web), queue_order_of(copy))
            self.check(queue_count(web), queue_count(copy))


class QueueProgramTest(ExactTest):

    def told(self, web, order, found):
        """This is the program, by position and by name, and it takes of each giver what it should."""
        self.check(queue_program(web, order), found)
        self.check(queue_program(web=web, order=order), found)
        self.check(slow_is_plain(web, found, True), True)

    def test_examples(self):
        self.told(EXAMPLE, (1, 0, 2, 3), ((1, (), 1), (0, (), 2), (2, (1, 0), 1), (3, (1, 0), 0)))
        self.told(WEDGE, (0, 2, 1, 3), ((0, (), 2), (2, (0,), 1), (1, (0,), 1), (3, (1, 0), 0)))

    def test_one_step(self):
        self.told((IN,), (0,), ((0, (), 0),))

    def test_several_ties_from_one_giver_to_one_taker(self):
        self.told((("pick", (1, 1, 1)), IN), (1, 0), ((1, (), 3), (0, (0, 1, 2), 0)))
        # The cells of step 0 come first, and the least place has the first one of each.
        for inputs, takes in (((0, 1, 1), (0, 1, 2)), ((1, 0, 1), (1, 0, 2)), ((1, 1, 0), (1, 2, 0)),
                              ((0, 0, 1), (0, 1, 2)), ((0, 1, 0), (0, 2, 1)), ((1, 0, 0), (2, 0, 1))):
            copies = [inputs.count(step) for step in (0, 1)]
            told = ((0, (), copies[0]), (1, (), copies[1]), (2, takes, 0))
            self.told((IN, IN, ("pick", inputs)), (0, 1, 2), told)

    def test_a_giver_with_as_many_takers_as_there_can_be(self):
        web = (IN,) + (("pick", (0, 0, 0)),) * 9
        self.told(web, tuple(range(10)), ((0, (), 27),) + tuple((step, (0, 1, 2), 0) for step in range(1, 10)))

    def test_ten_steps(self):
        told = ((0, (), 1),) + tuple((step, (0,), 1) for step in range(1, 9)) + ((9, (0,), 0),)
        self.told(row(10), tuple(range(10)), told)


class RunQueueTest(ExactTest):

    def told(self, web, value, worths, found):
        """run_queue returns this, by position and by name, and the slow machine does, too."""
        self.check(run_queue(web, value, worths), found)
        self.check(run_queue(web=web, value=value, worths=worths), found)
        self.check(slow_machine(web, value, worths, True)[0], ("results", found))

    def short(self, web, value, worths, index):
        with self.assertRaises(Short) as caught:
            run_queue(web, value, worths)
        self.check(caught.exception.index, index)

    def left(self, web, value, worths, many):
        with self.assertRaises(Left) as caught:
            run_queue(web=web, value=value, worths=worths)
        self.check(caught.exception.many, many)

    def test_example(self):
        self.told(EXAMPLE, ((1, (), 1), (0, (), 2), (2, (1, 0), 1), (3, (1, 0), 0)), (5, 7), (60,))
        self.told(EXAMPLE, ((1, (), 1), (0, (), 2), (2, (0, 1), 1), (3, (0, 1), 0)), (5, 7), (60,))

    def test_one_step(self):
        self.told((IN,), ((0, (), 0),), (5,), (5,))
        self.left((IN,), ((0, (), MAX_COPIES),), (5,), 30)
        self.short((("neg", (1,)), IN), ((0, (0,), 0), (1, (), 1)), (5,), 0)

    def test_takes_tell_places_from_the_front(self):
        web = (IN, IN, IN, ("pick", (0, 1, 2)))
        givers = ((0, (), 1), (1, (), 1), (2, (), 1))
        for takes in permutations(range(3)):
            cells = (10, -20, 30)
            first, second, third = [cells[place] for place in takes]
            self.told(web, givers + ((3, takes, 0),), (10, -20, 30), (second if first > 0 else third,))

    def test_cells_are_put_at_the_end(self):
        web = (IN, IN, ("neg", (0,)), ("-", (1, 2)))
        self.told(web, ((0, (), 1), (1, (), 1), (2, (0,), 1), (3, (0, 1), 0)), (5, 7), (12,))
        self.told(web, ((1, (), 1), (0, (), 1), (2, (0,), 1), (3, (0, 1), 0)), (5, 7), (12,))

    def test_the_first_instruction_that_finds_fewer(self):
        self.short(EXAMPLE, ((0, (), 1), (1, (), 1), (2, (0, 1), 1), (3, (0, 1), 0)), (5, 7), 3)
        self.short(EXAMPLE, ((0, (), 1), (2, (0, 1), 9), (1, (), 1), (3, (0, 1), 9)), (5, 7), 1)

    def test_left(self):
        self.left(EXAMPLE, ((0, (), 30), (1, (), 30), (2, (0, 1), 30), (3, (0, 1), 30)), (5, 7), 116)

    def test_results_are_those_without_copies(self):
        web = (IN, ("neg", (0,)), IN)
        self.told(web, ((2, (), 1), (1, (0,), 0), (0, (), 0)), (5, 7), (5, -7))

    def test_all_programs_of_a_small_web(self):
        web = (IN, ("neg", (0,)), ("-", (0, 1)))
        for order in permutations(range(3)):
            for copies in product(range(3), repeat=3):
                for takes in ((0, 1), (1, 0)):
                    inputs = {0: (), 1: (0,), 2: takes}
                    value = tuple((step, inputs[step], many) for step, many in zip(order, copies))
                    self.check(run_or_error(web, value, (5,)), slow_machine(web, value, (5,), True)[0])


def run_or_error(web, value, worths):
    """What run_queue does, as the slow machine tells it."""
    try:
        return ("results", run_queue(web, value, worths))
    except Short as error:
        return ("short", error.index)
    except Left as error:
        return ("left", error.many)


if __name__ == "__main__":
    unittest.main()
