"""[7]: heights, least_height, greatest_height, lowest_order."""

import unittest

from pilepass.heights import greatest_height, heights, least_height, lowest_order
from tests.samples import AROUND, EXAMPLE, SQUARE, ExactTest, row, side_by_side

IN = ("in", ())
PAIR = (IN, ("neg", (0,)))


class HeightsTest(ExactTest):

    def told(self, web, least, greatest, lowest):
        """All that tells of the heights of a web, by position and by name."""
        self.check(least_height(web), least)
        self.check(least_height(web=web), least)
        self.check(greatest_height(web), greatest)
        self.check(greatest_height(web=web), greatest)
        self.check(lowest_order(web), lowest)
        self.check(lowest_order(web=web), lowest)

    def test_example(self):
        self.check(heights(EXAMPLE, (0, 1, 2, 3)), (2, 3, 2, 0))
        self.check(heights(web=EXAMPLE, order=(0, 1, 2, 3)), (2, 3, 2, 0))
        self.told(EXAMPLE, 3, 3, (0, 1, 2, 3))

    def test_one_step(self):
        self.check(heights((IN,), (0,)), (0,))
        self.told((IN,), 0, 0, (0,))

    def test_steps_without_a_tie(self):
        self.check(heights((IN,) * 10, tuple(range(9, -1, -1))), (0,) * 10)
        self.told((IN,) * 10, 0, 0, tuple(range(10)))

    def test_a_row_of_ten_steps(self):
        self.check(heights(row(10), tuple(range(10))), (1,) * 9 + (0,))
        self.told(row(10), 1, 1, tuple(range(10)))

    def test_no_right_order(self):
        for web in (SQUARE, AROUND, side_by_side((IN,), SQUARE)):
            self.told(web, None, None, None)

    def test_several_ties_are_as_many_cells(self):
        web = (("pick", (1, 1, 1)), IN)
        self.check(heights(web, (1, 0)), (3, 0))
        self.told(web, 3, 3, (1, 0))

    def test_a_star(self):
        self.told((IN,) + (("neg", (0,)),) * 9, 9, 9, tuple(range(10)))

    def test_pairs_one_after_another_or_within_one_another(self):
        web = (IN, IN, IN, ("neg", (2,)), ("neg", (1,)), ("neg", (0,)))
        self.check(heights(web, (0, 1, 2, 3, 4, 5)), (1, 2, 3, 2, 1, 0))
        self.check(heights(web, (0, 5, 1, 4, 2, 3)), (1, 0, 1, 0, 1, 0))
        self.told(web, 1, 3, (0, 5, 1, 4, 2, 3))

    def test_the_first_order_is_not_the_lowest_one(self):
        web = side_by_side(PAIR, PAIR)
        web = (web[0], web[2], ("neg", (1,)), ("neg", (0,)))
        self.check(heights(web, (0, 1, 2, 3)), (1, 2, 1, 0))
        self.told(web, 1, 2, (0, 3, 1, 2))

    def test_a_cell_that_waits_counts_behind_each_step_until_it_is_taken(self):
        web = (IN, ("neg", (0,)), IN, ("neg", (2,)), ("+", (1, 3)))
        self.told(web, 2, 2, (0, 1, 2, 3, 4))
        self.check(heights(web, (0, 1, 2, 3, 4)), (1, 1, 2, 2, 0))
        self.check(heights(web, (2, 3, 0, 1, 4)), (1, 1, 2, 2, 0))

    def test_parts_add_up_at_most_and_not_at_least(self):
        for many in range(1, 6):
            web = side_by_side(*[PAIR] * many)
            self.check(least_height(web), 1)
            self.check(greatest_height(web), many)
            self.check(lowest_order(web), tuple(range(2 * many)))
        web = side_by_side(EXAMPLE, EXAMPLE, PAIR)
        self.told(web, 3, 7, (0, 1, 2, 3, 4, 5, 6, 7, 8, 9))

    def test_the_lowest_order_may_go_up_to_the_least_height_early(self):
        # Step 4 needs three cells, so that the pair of 0 and 3 may stay on the pile for long.
        web = (IN, IN, IN, ("neg", (0,)), ("pick", (2, 2, 2)), ("neg", (1,)))
        self.told(web, 3, 5, (0, 1, 5, 3, 2, 4))

    def test_what_is_begun_first_lies_under_the_rest(self):
        # Step 5 needs three cells: it cannot come on top of the one that step 1 leaves for step 6.
        web = (IN, ("neg", (0,)), IN, IN, IN, ("pick", (2, 3, 4)), ("+", (1, 5)))
        self.told(web, 3, 4, (2, 3, 4, 5, 0, 1, 6))
        self.check(heights(web, (0, 1, 2, 3, 4, 5, 6)), (1, 1, 2, 3, 4, 2, 0))
        # The same for steps that come behind their giver: step 1 with three takers comes last.
        web = (IN, ("neg", (0,)), ("neg", (0,)), ("neg", (1,)), ("neg", (1,)), ("neg", (1,)))
        self.told(web, 3, 4, (0, 2, 1, 3, 4, 5))

    def test_equal_calls_return_equal_results(self):
        for web in (EXAMPLE, SQUARE, side_by_side(PAIR, PAIR)):
            copy = tuple(list(web))
            for call in (least_height, greatest_height, lowest_order):
                self.check(call(web), call(copy))


if __name__ == "__main__":
    unittest.main()
