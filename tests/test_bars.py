"""[6]: bar and bar_holds."""

import unittest

from pilepass.bars import bar, bar_holds
from tests.samples import (
    AROUND, CROSSED, CROSSED_AROUND, EXAMPLE, NO_TUPLES, SQUARE, THREE_AROUND, TIED_MIDDLES, UNCLOSED, ExactTest,
    nested, row, same, side_by_side, with_a_part_replaced,
)
from tests.slow import slow_bars

IN = ("in", ())


class BarTest(ExactTest):

    def told(self, web, found):
        """This is the first bar, by position and by name, and it holds."""
        self.check(bar(web), found)
        self.check(bar(web=web), found)
        if found is not None:
            self.check(bar_holds(web, found), True)
            self.check(bar_holds(web=web, value=found), True)

    def test_no_bar(self):
        for web in (EXAMPLE, row(10), (IN,), (IN,) * 10, (IN, ("pick", (0, 0, 0))), (IN,) + (("neg", (0,)),) * 9):
            self.told(web, None)

    def test_apart(self):
        self.told(SQUARE, ("apart", (0, 1, 2, 3), 0, 1))
        self.told((IN, ("neg", (0,)), ("neg", (0,)), ("+", (1, 2))), ("apart", (0, 1, 2, 3), 1, 2))

    def test_apart_holds_for_each_pair(self):
        for pair in ((0, 1), (2, 3)):
            self.check(bar_holds(SQUARE, ("apart", (0, 1, 2, 3), *pair)), True)
        for pair in ((1, 0), (0, 2), (0, 3), (1, 2), (0, 0), (3, 2), (2, 0), (0, 4), (-1, 3)):
            self.check(bar_holds(SQUARE, ("apart", (0, 1, 2, 3), *pair)), False)

    def test_open(self):
        self.told(UNCLOSED, ("open", (0, 1, 2, 3)))
        self.check(bar_holds(UNCLOSED, ("cross", (0, 1, 2, 3), (0, 2, 0), (1, 3, 0))), True)

    def test_cross(self):
        self.told(CROSSED[:3] + (("+", (0, 2)),), None)
        self.told(CROSSED, ("cross", (0, 1, 2, 3), (0, 2, 0), (1, 3, 1)))

    def test_cross_tells_the_least_of_several_ties(self):
        web = (IN, ("neg", (0,)), ("pick", (1, 0, 0)), ("pick", (1, 0, 1)), ("+", (3, 0)))
        block = (0, 1, 2, 3, 4)
        self.told(web, ("apart", block, 2, 3))
        web = (IN, ("neg", (0,)), ("pick", (1, 0, 0)), ("pick", (2, 1, 1)), ("+", (3, 0)))
        self.told(web, ("cross", block, (0, 2, 1), (1, 3, 1)))
        for tie in ((0, 2, 1), (0, 2, 2)):
            for another in ((1, 3, 1), (1, 3, 2)):
                self.check(bar_holds(web, ("cross", block, tie, another)), True)
                self.check(bar_holds(web, ("cross", block, another, tie)), False)
        self.check(bar_holds(web, ("cross", block, (0, 2, 0), (1, 3, 1))), False)
        self.check(bar_holds(web, ("cross", block, (0, 1, 0), (1, 3, 1))), False)

    def test_around(self):
        self.told(AROUND, ("around", (0, 2, 3), (1, 2, 4)))
        self.check(bar_holds(AROUND, ("around", (1, 2, 4), (0, 2, 3))), False)
        self.check(bar_holds(AROUND, ("around", (0, 2, 3), (0, 2, 3))), False)

    def test_around_for_blocks_that_share_no_step(self):
        self.told(TIED_MIDDLES, ("around", (0, 1, 2), (3, 4, 5)))
        # With a tie from the last step of the one row, only one block lies around the other one.
        self.told(TIED_MIDDLES[:4] + (("+", (2, 3)), ("+", (3, 4))), None)

    def test_blocks_of_two_parts_do_not_lie_around_one_another(self):
        triangle = (IN, ("neg", (0,)), ("+", (0, 1)))
        self.told(side_by_side(triangle, triangle), None)

    def test_blocks_of_two_steps_lie_around_nothing(self):
        self.told((IN, ("neg", (0,)), ("+", (0, 1)), ("neg", (1,))), None)

    def test_a_block_without_a_row_lies_around_nothing(self):
        # The middle step of 4, 0, 5 is step 0 of a square.
        web = (("neg", (4,)), IN, ("+", (0, 1)), ("-", (0, 1)), IN, ("+", (4, 0)))
        self.told(web, ("apart", (0, 1, 2, 3), 0, 1))
        self.check(slow_bars(web), [("apart", (0, 1, 2, 3), 0, 1), ("apart", (0, 1, 2, 3), 2, 3)])

    def test_the_first_block_comes_first(self):
        self.told(side_by_side(AROUND, SQUARE), ("around", (0, 2, 3), (1, 2, 4)))
        self.told(side_by_side(SQUARE, AROUND), ("apart", (0, 1, 2, 3), 0, 1))
        self.told(side_by_side(CROSSED, UNCLOSED), ("cross", (0, 1, 2, 3), (0, 2, 0), (1, 3, 1)))
        self.told(side_by_side(UNCLOSED, CROSSED), ("open", (0, 1, 2, 3)))
        self.told(side_by_side((IN, ("neg", (0,))), SQUARE), ("apart", (2, 3, 4, 5), 2, 3))
        web = side_by_side(AROUND, SQUARE)
        self.check(bar_holds(web, ("apart", (5, 6, 7, 8), 7, 8)), True)

    def test_cross_comes_ahead_of_around(self):
        self.told(CROSSED_AROUND, ("cross", (0, 1, 2, 3), (0, 2, 0), (1, 3, 1)))
        self.check(bar_holds(CROSSED_AROUND, ("around", (0, 1, 2, 3), (1, 4, 5))), True)

    def test_open_comes_ahead_of_around(self):
        web = (IN, ("+", (0, 4)), ("+", (0, 1)), ("+", (1, 2)), IN, ("+", (4, 1)))
        self.told(web, ("open", (0, 1, 2, 3)))
        self.check(bar_holds(web, ("around", (0, 1, 2, 3), (1, 4, 5))), True)
        self.check(bar_holds(web, ("cross", (0, 1, 2, 3), (0, 2, 0), (1, 3, 0))), True)

    def test_the_least_of_several_around(self):
        self.told(THREE_AROUND, ("around", (0, 1, 2), (0, 3, 4)))
        self.check(bar_holds(THREE_AROUND, ("around", (0, 1, 2), (0, 5, 6))), True)
        self.check(bar_holds(THREE_AROUND, ("around", (0, 3, 4), (0, 5, 6))), True)

    def test_ten_steps(self):
        web = (IN,) + tuple(("neg", (step,)) for step in range(7)) + (("neg", (0,)), ("+", (7, 8)))
        self.told(web, ("apart", tuple(range(10)), 1, 8))
        web = (IN, ("neg", (0,))) + tuple(("+", (step - 2, step - 1)) for step in range(2, 10))
        self.told(web, ("open", tuple(range(10))))


class BarHoldsTest(ExactTest):

    def test_values_of_other_kinds(self):
        for web in (EXAMPLE, SQUARE, AROUND, UNCLOSED, CROSSED):
            for value in NO_TUPLES + ((), ((),), nested(11), (nested(11),), ("apart",), ("open",), ("x",) * 1000):
                self.check(bar_holds(web, value), False)
                self.check(bar_holds(web=web, value=value), False)
                self.check(bar_holds(web, ("open", value)), False)
                self.check(bar_holds(web, ("apart", (0, 1, 2, 3), 0, value)), web == SQUARE and same(value, 1))

    def test_parts_replaced(self):
        for web in (SQUARE, AROUND, UNCLOSED, CROSSED, TIED_MIDDLES):
            found = slow_bars(web)
            for right in found:
                for value in with_a_part_replaced(right):
                    told = any(same(value, other) for other in found)
                    self.check(bar_holds(web, value), told)

    def test_lists_are_no_tuples(self):
        for value in (["apart", (0, 1, 2, 3), 0, 1], ("apart", [0, 1, 2, 3], 0, 1)):
            self.check(bar_holds(SQUARE, value), False)
        self.check(bar_holds(UNCLOSED, ("open", [0, 1, 2, 3])), False)
        self.check(bar_holds(CROSSED, ("cross", (0, 1, 2, 3), [0, 2, 0], (1, 3, 1))), False)

    def test_true_and_false_are_no_integers(self):
        for value in (("apart", (0, 1, 2, 3), 0, True), ("apart", (0, 1, 2, 3), False, 1),
                      ("apart", (False, 1, 2, 3), 0, 1), ("apart", (0, True, 2, 3), 2, 3)):
            self.check(bar_holds(SQUARE, value), False)
        self.check(bar_holds(UNCLOSED, ("open", (0, True, 2, 3))), False)
        self.check(bar_holds(CROSSED, ("cross", (0, 1, 2, 3), (0, 2, False), (1, 3, 1))), False)
        self.check(bar_holds(CROSSED, ("cross", (0, 1, 2, 3), (0, 2, 0), (True, 3, True))), False)
        self.check(bar_holds(AROUND, ("around", (0, 2, 3), (True, 2, 4))), False)

    def test_bars_of_other_webs(self):
        for web in (EXAMPLE, row(4), (IN,)):
            for other in (SQUARE, AROUND, UNCLOSED, CROSSED):
                for value in slow_bars(other):
                    self.check(bar_holds(web, value), False)

    def test_right_words_with_wrong_rest(self):
        for value in (("open", (0, 1, 2, 3)), ("cross", (0, 1, 2, 3), (0, 2, 0), (1, 3, 0)),
                      ("apart", (0, 1, 2, 3), 0, 1, 2), ("apart", (0, 1), 0, 1), ("around", (0, 1, 2, 3), (0, 1, 2, 3)),
                      ("apart", (3, 2, 1, 0), 0, 1), ("apart", 0, 1), ("Apart", (0, 1, 2, 3), 0, 1)):
            self.check(bar_holds(SQUARE, value), False)

    def test_nothing_is_changed(self):
        value = ["apart", [0, 1, 2, 3], {0: 1}]
        bar_holds(SQUARE, value)
        bar_holds(SQUARE, ("apart", value, 0, 1))
        self.assertEqual(value, ["apart", [0, 1, 2, 3], {0: 1}])

    def test_equal_calls_return_equal_results(self):
        for web in (EXAMPLE, SQUARE, AROUND):
            self.check(bar(web), bar(tuple(list(web))))


if __name__ == "__main__":
    unittest.main()
