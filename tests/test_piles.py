"""[8]: program, program_error, run, is_plain."""

import unittest
from itertools import permutations, product

from pilepass.bounds import MAX_COPIES
from pilepass.errors import Left, Short
from pilepass.looms import Loom
from pilepass.orders import orders
from pilepass.piles import is_plain, program, program_error, run
from pilepass.webs import meaning
from tests.samples import (
    AROUND, EXAMPLE, NO_TUPLES, OTHERS, SQUARE, ExactTest, nested, row, same, side_by_side, with_a_part_replaced,
)
from tests.slow import slow_is_plain, slow_machine, slow_programs

IN = ("in", ())
PLAIN = ((0, (), 2), (1, (), 1), (2, (1, 0), 1), (3, (0, 1), 0))
# Nine takers with three inputs each: as many copies as a web can need.
WIDE = (IN,) + (("pick", (0, 0, 0)),) * 9
WIDE_PLAIN = ((0, (), 27),) + tuple((step, (0, 1, 2), 0) for step in range(1, 10))


def replaced(program, index, item):
    return program[:index] + (item,) + program[index + 1:]


class ProgramTest(ExactTest):

    def told(self, web, order, found):
        """This is the program, by position and by name, and it is plain."""
        self.check(program(web, order), found)
        self.check(program(web=web, order=order), found)
        self.check(is_plain(web, found), True)
        self.check(slow_is_plain(web, found), True)

    def test_example(self):
        self.told(EXAMPLE, (0, 1, 2, 3), PLAIN)

    def test_one_step(self):
        self.told((IN,), (0,), ((0, (), 0),))
        self.told(((-99, ()),), (0,), ((0, (), 0),))

    def test_steps_without_a_tie(self):
        for order in permutations(range(4)):
            self.told((IN,) * 4, order, tuple((step, (), 0) for step in order))
        self.told((IN,) * 10, tuple(range(9, -1, -1)), tuple((step, (), 0) for step in range(9, -1, -1)))

    def test_ten_steps(self):
        told = ((0, (), 1),) + tuple((step, (0,), 1) for step in range(1, 9)) + ((9, (0,), 0),)
        self.told(row(10), tuple(range(10)), told)

    def test_several_ties_from_one_giver_to_one_taker(self):
        self.told((IN, ("+", (0, 0))), (0, 1), ((0, (), 2), (1, (0, 1), 0)))
        self.told((("pick", (1, 1, 1)), IN), (1, 0), ((1, (), 3), (0, (0, 1, 2), 0)))
        # The cells of step 1 lie on those of step 0, and the least place has the highest one of each.
        two = (IN, IN)
        for inputs, takes in (((0, 1, 1), (2, 0, 1)), ((1, 0, 1), (0, 2, 1)), ((1, 1, 0), (0, 1, 2)),
                              ((0, 0, 1), (1, 2, 0)), ((0, 1, 0), (1, 0, 2)), ((1, 0, 0), (0, 1, 2))):
            copies = [inputs.count(step) for step in (0, 1)]
            self.told(two + (("pick", inputs),), (0, 1, 2), ((0, (), copies[0]), (1, (), copies[1]), (2, takes, 0)))

    def test_the_order_tells_what_lies_highest_and_not_the_numbers(self):
        web = (("-", (1, 2)), IN, IN)
        self.told(web, (1, 2, 0), ((1, (), 1), (2, (), 1), (0, (1, 0), 0)))
        self.told(web, (2, 1, 0), ((2, (), 1), (1, (), 1), (0, (0, 1), 0)))

    def test_a_giver_with_as_many_takers_as_there_can_be(self):
        star = (IN,) + (("neg", (0,)),) * 9
        self.told(star, tuple(range(10)), ((0, (), 9),) + tuple((step, (0,), 0) for step in range(1, 10)))
        self.told(WIDE, tuple(range(10)), WIDE_PLAIN)
        order = (0,) + tuple(range(9, 0, -1))
        self.told(WIDE, order, WIDE_PLAIN[:1] + WIDE_PLAIN[:0:-1])


class ProgramErrorTest(ExactTest):

    def told(self, web, value, error):
        """program_error tells this, by position and by name; what is no program is not plain either."""
        self.check(program_error(web, value), error)
        self.check(program_error(web=web, value=value), error)
        if error is not None:
            self.check(is_plain(web, value), False)
            self.check(is_plain(web=web, value=value), False)

    def item_told(self, item, word="instruction"):
        """In each place of a program for the example this item has this fault."""
        for index in range(4):
            self.told(EXAMPLE, replaced(PLAIN, index, item), (index, word))

    def test_programs(self):
        self.told(EXAMPLE, PLAIN, None)
        for value in permutations(PLAIN):
            self.told(EXAMPLE, value, None)
        self.told((IN,), ((0, (), MAX_COPIES),), None)
        self.told(WIDE, WIDE_PLAIN, None)

    def test_any_takes_with_each_depth_once(self):
        web = (("pick", (1, 1, 1)), IN)
        for takes in permutations(range(3)):
            self.told(web, ((1, (), 0), (0, takes, 7)), None)
        for takes in product(range(-1, 4), repeat=3):
            error = None if sorted(takes) == [0, 1, 2] else (1, "instruction")
            self.told(web, ((1, (), 0), (0, takes, 7)), error)

    def test_no_programs(self):
        for value in NO_TUPLES:
            self.told(EXAMPLE, value, (None, "program"))
            self.told((IN,), value, (None, "program"))
        for value in (list(PLAIN), (), PLAIN[:3], PLAIN + PLAIN[:1], (PLAIN,), dict(enumerate(PLAIN)), nested(11),
                      (None,) * 3, (PLAIN[0],) * 5, Loom(EXAMPLE), orders(EXAMPLE)):
            self.told(EXAMPLE, value, (None, "program"))

    def test_no_instructions(self):
        for value in NO_TUPLES + ((), (0,), (0, ()), (0, (), 2, 0), ((0, (), 2),), [0, (), 2], nested(11)):
            self.item_told(value)
        self.item_told(Loom(EXAMPLE))

    def test_wrong_steps(self):
        for step in (*NO_TUPLES, *OTHERS, -1, 4, 10, (0,), (0, 1)):
            if isinstance(step, bool) or step not in (0, 1, 2, 3):
                self.item_told((step, (), 1))
                self.item_told((step, (0, 1), 1))

    def test_wrong_takes(self):
        for takes in (*NO_TUPLES, (0,), (1,), (0, 0), (0, 1), (None,), ((),)):
            self.told((IN,), ((0, takes, 0),), (0, "instruction"))
        for takes in (*NO_TUPLES, (), (0,), (0, 1, 2), (0, 0), (1, 1), (1, 2), (0, -1), (0, 2), [0, 1], (0, None),
                      ("0", "1"), ((0,), (1,)), (0, [1]), {0: 0, 1: 1}, "01", tuple(range(1000))):
            self.told(EXAMPLE, replaced(PLAIN, 2, (2, takes, 1)), (2, "instruction"))

    def test_wrong_copies(self):
        for copies in (*NO_TUPLES, -1, MAX_COPIES + 1, 10 ** 39, (), (1,), "1", [1]):
            if isinstance(copies, bool) or copies not in range(MAX_COPIES + 1):
                self.told((IN,), ((0, (), copies),), (0, "instruction"))
        for copies in range(MAX_COPIES + 1):
            self.told((IN,), ((0, (), copies),), None)
        self.told((IN,), ((0, (), 31),), (0, "instruction"))

    def test_true_and_false_are_no_integers(self):
        web = (IN, ("neg", (0,)))
        right = ((0, (), 1), (1, (0,), 0))
        self.told(web, right, None)
        self.told(web, ((False, (), 1), right[1]), (0, "instruction"))
        self.told(web, ((0, (), True), right[1]), (0, "instruction"))
        self.told(web, (right[0], (True, (0,), 0)), (1, "instruction"))
        self.told(web, (right[0], (1, (False,), 0)), (1, "instruction"))
        self.told(web, (right[0], (1, (0,), False)), (1, "instruction"))
        self.told(EXAMPLE, replaced(PLAIN, 3, (3, (0, True), 0)), (3, "instruction"))

    def test_twice(self):
        for index in range(1, 4):
            for before in range(index):
                self.told(EXAMPLE, replaced(PLAIN, index, PLAIN[before]), (index, "twice"))
        self.told(EXAMPLE, replaced(PLAIN, 1, (0, (), 30)), (1, "twice"))
        self.told(EXAMPLE, (PLAIN[0],) * 4, (1, "twice"))

    def test_several_faults(self):
        self.told(EXAMPLE, [None] * 4, (None, "program"))
        self.told(EXAMPLE, (None,) * 5, (None, "program"))
        self.told(EXAMPLE, (PLAIN[0], (0, (), 31), None, None), (1, "instruction"))
        self.told(EXAMPLE, (PLAIN[0], (0, (0,), 1), None, None), (1, "instruction"))
        self.told(EXAMPLE, (PLAIN[0], PLAIN[0], None, None), (1, "twice"))
        self.told(EXAMPLE, (PLAIN[0], PLAIN[1], None, PLAIN[0]), (2, "instruction"))
        self.told(EXAMPLE, (None, None, PLAIN[0], PLAIN[0]), (0, "instruction"))

    def test_parts_replaced(self):
        for value in with_a_part_replaced(PLAIN):
            error = slow_program_error(EXAMPLE, value)
            self.told(EXAMPLE, value, error)
            self.check(is_plain(EXAMPLE, value), error is None and slow_is_plain(EXAMPLE, value))

    def test_nothing_is_changed(self):
        value = ([0, [], 2], {1: []})
        for call in (program_error, is_plain):
            call(EXAMPLE, list(value))
            call(EXAMPLE, value + value)
            call(EXAMPLE, PLAIN[:2] + value)
        self.assertEqual(value, ([0, [], 2], {1: []}))


def slow_program_error(web, value):
    """What the document says of a value, by its words and its own kinds."""
    if type(value) is not tuple or len(value) != len(web):
        return (None, "program")
    for index, item in enumerate(value):
        right = [
            (step, takes, copies) for step in range(len(web))
            for takes in permutations(range(len(web[step][1]))) for copies in range(31)
        ]
        if not any(same(item, one) for one in right):
            return (index, "instruction")
        if any(item[0] == other[0] for other in value[:index]):
            return (index, "twice")
    return None


class RunTest(ExactTest):

    def told(self, web, value, worths, found):
        """run returns this, by position and by name, and the slow machine does, too."""
        self.check(program_error(web, value), None)
        self.check(run(web, value, worths), found)
        self.check(run(web=web, value=value, worths=worths), found)
        self.check(slow_machine(web, value, worths)[0], ("results", found))

    def short(self, web, value, worths, index):
        with self.assertRaises(Short) as caught:
            run(web, value, worths)
        self.check(caught.exception.index, index)
        self.check(slow_machine(web, value, worths)[0], ("short", index))

    def left(self, web, value, worths, many):
        with self.assertRaises(Left) as caught:
            run(web=web, value=value, worths=worths)
        self.check(caught.exception.many, many)
        self.check(slow_machine(web, value, worths)[0], ("left", many))

    def test_example(self):
        self.told(EXAMPLE, PLAIN, (5, 7), (60,))
        self.told(EXAMPLE, PLAIN, (-5, 7), (-10,))

    def test_one_step(self):
        self.told((IN,), ((0, (), 0),), (5,), (5,))
        self.told(((-99, ()),), ((0, (), 0),), (), (-99,))
        self.left((IN,), ((0, (), 1),), (5,), 1)
        self.left((IN,), ((0, (), MAX_COPIES),), (5,), 30)
        self.short((("neg", (1,)), IN), ((0, (0,), 0), (1, (), 1)), (5,), 0)

    def test_results_are_told_in_ascending_order_of_the_steps(self):
        web = (IN, (7, ()), IN)
        for value in permutations(((0, (), 0), (1, (), 0), (2, (), 0))):
            self.told(web, value, (5, -5), (5, 7, -5))

    def test_worths_go_to_the_in_steps_and_not_to_the_instructions(self):
        web = (("-", (1, 2)), IN, IN)
        self.told(web, ((2, (), 1), (1, (), 1), (0, (0, 1), 0)), (10, 3), (7,))
        self.told(web, ((2, (), 1), (1, (), 1), (0, (1, 0), 0)), (10, 3), (-7,))

    def test_takes_tell_depths_from_the_top(self):
        web = (IN, IN, IN, ("pick", (0, 1, 2)))
        givers = ((0, (), 1), (1, (), 1), (2, (), 1))
        for takes in permutations(range(3)):
            cells = (30, -20, 10)
            first, second, third = [cells[depth] for depth in takes]
            self.told(web, givers + ((3, takes, 0),), (10, -20, 30), (second if first > 0 else third,))

    def test_results_are_those_without_copies_whatever_the_ties_are(self):
        # Step 0 is a giver, but its copies are 0; step 1 takes those of step 2.
        web = (IN, ("neg", (0,)), IN)
        self.told(web, ((0, (), 0), (2, (), 1), (1, (0,), 0)), (5, 7), (5, -7))
        # Step 2 is no giver, but step 1 takes what it puts there; its worth is no result then.
        self.told(web, ((2, (), 1), (1, (0,), 0), (0, (), 0)), (5, 7), (5, -7))

    def test_short_at_the_first_instruction_that_finds_fewer(self):
        self.short(EXAMPLE, PLAIN[::-1], (5, 7), 0)
        self.short(EXAMPLE, (PLAIN[0], PLAIN[2], PLAIN[3], PLAIN[1]), (5, 7), 2)
        self.short(EXAMPLE, ((0, (), 0), (1, (), 1)) + PLAIN[2:], (5, 7), 2)
        self.short(EXAMPLE, ((0, (), 1), (1, (), 1)) + PLAIN[2:], (5, 7), 3)

    def test_short_comes_ahead_of_left(self):
        web = (IN, ("neg", (0,)))
        self.short(web, ((1, (0,), 5), (0, (), 5)), (1,), 0)
        self.left(web, ((0, (), 5), (1, (0,), 5)), (1,), 9)

    def test_left(self):
        self.left(EXAMPLE, ((0, (), 3), (1, (), 1)) + PLAIN[2:], (5, 7), 1)
        self.left(EXAMPLE, PLAIN[:3] + ((3, (0, 1), 1),), (5, 7), 1)
        self.left((IN,) * 10, tuple((step, (), MAX_COPIES) for step in range(10)), (1,) * 10, 300)

    def test_cells_of_other_givers_may_be_taken(self):
        # Each cell that is there may be taken: the machine does not ask whose it is.
        self.told(EXAMPLE, ((1, (), 2), (0, (), 1)) + PLAIN[2:], (5, 7), (84,))

    def test_exact_worths_of_any_size(self):
        web = (IN,) + tuple(("*", (step, step)) for step in range(9))
        value = ((0, (), 2),) + tuple((step, (1, 0), 2 if step < 9 else 0) for step in range(1, 10))
        self.told(web, value, (10 ** 40 - 1,), ((10 ** 40 - 1) ** 512,))
        self.told(web, value, (-(10 ** 40 - 1),), ((10 ** 40 - 1) ** 512,))

    def test_each_kind(self):
        for inputs, kind, found in (((5, 7), "+", 12), ((5, 7), "-", -2), ((5, 7), "*", 35), ((5,), "neg", -5),
                                    ((1, 2, 3), "pick", 2), ((0, 2, 3), "pick", 3), ((-1, 2, 3), "pick", 3)):
            many = len(inputs)
            web = (IN,) * many + ((kind, tuple(range(many))),)
            value = tuple((step, (), 1) for step in range(many)) + ((many, tuple(range(many))[::-1], 0),)
            self.told(web, value, inputs, (found,))

    def test_nothing_is_changed(self):
        worths = (5, 7)
        run(EXAMPLE, PLAIN, worths)
        self.check((EXAMPLE, PLAIN, worths), ((IN, IN, ("+", (0, 1)), ("*", (2, 0))),
                                              ((0, (), 2), (1, (), 1), (2, (1, 0), 1), (3, (0, 1), 0)), (5, 7)))


class IsPlainTest(ExactTest):

    def test_example(self):
        self.check(is_plain(EXAMPLE, PLAIN), True)
        self.check(is_plain(web=EXAMPLE, value=PLAIN), True)
        for value in list(permutations(PLAIN))[1:]:
            self.check(is_plain(EXAMPLE, value), False)

    def test_any_cells_of_the_giver_serve(self):
        web = (IN, ("pick", (0, 0, 0)))
        for takes in permutations(range(3)):
            self.check(is_plain(web, ((0, (), 3), (1, takes, 0))), True)
        web = (IN, IN, ("pick", (1, 0, 1)))
        for takes in permutations(range(3)):
            self.check(is_plain(web, ((0, (), 1), (1, (), 2), (2, takes, 0))), takes[1] == 2)

    def test_wrong_cells(self):
        self.check(is_plain(EXAMPLE, replaced(PLAIN, 2, (2, (0, 1), 1))), False)
        self.check(is_plain(EXAMPLE, replaced(PLAIN, 3, (3, (1, 0), 0))), False)

    def test_wrong_copies(self):
        for index, (step, takes, copies) in enumerate(PLAIN):
            for other in range(MAX_COPIES + 1):
                self.check(is_plain(EXAMPLE, replaced(PLAIN, index, (step, takes, other))), other == copies)

    def test_copies_that_only_add_up(self):
        # The worths are right here, but some copies are those of another step or too many.
        web = (IN, ("neg", (0,)), ("neg", (1,)))
        self.check(is_plain(web, ((0, (), 1), (1, (0,), 1), (2, (0,), 0))), True)
        self.check(is_plain(web, ((0, (), 2), (1, (0,), 0), (2, (0,), 0))), False)
        self.check(is_plain((IN, IN), ((0, (), 0), (1, (), 0))), True)
        self.check(is_plain((IN, IN), ((0, (), 0), (1, (), 1))), False)
        self.check(is_plain((IN,), ((0, (), 1),)), False)

    def test_webs_without_a_right_order_have_no_plain_program(self):
        for web in (SQUARE, AROUND):
            for value in slow_programs(web, permutations(range(len(web)))):
                self.check(is_plain(web, value), False)

    def test_values_that_are_no_programs(self):
        for value in NO_TUPLES + ((), PLAIN[:3], list(PLAIN), PLAIN + PLAIN):
            self.check(is_plain(EXAMPLE, value), False)
            self.check(is_plain((IN,), value), False)

    def test_ten_steps(self):
        web = side_by_side(EXAMPLE, (IN, ("+", (0, 0))), EXAMPLE)
        value = program(web, tuple(range(10)))
        self.check(is_plain(web, value), True)
        self.check(run(web, value, (1, 2, 3, 4, 5)), meaning(web, (1, 2, 3, 4, 5)))
        self.check(is_plain(WIDE, WIDE_PLAIN), True)
        self.check(is_plain(WIDE, replaced(WIDE_PLAIN, 0, (0, (), 28))), False)


if __name__ == "__main__":
    unittest.main()
