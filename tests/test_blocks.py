"""[4]: parts, blocks, shared_steps, row_of."""

import unittest

from pilepass.blocks import blocks, parts, row_of, shared_steps
from tests.samples import AROUND, EXAMPLE, SQUARE, ExactTest, row, side_by_side

IN = ("in", ())
TRIANGLE = (IN, ("neg", (0,)), ("+", (0, 1)))


class PartsTest(ExactTest):

    def test_one_part(self):
        for web in (EXAMPLE, SQUARE, AROUND, TRIANGLE, row(10), (IN,)):
            self.check(parts(web), (tuple(range(len(web))),))

    def test_steps_without_a_tie(self):
        self.check(parts((IN,) * 10), tuple((step,) for step in range(10)))
        self.check(parts(((1, ()), (1, ()))), ((0,), (1,)))

    def test_parts_that_lie_apart_and_within_one_another(self):
        web = (IN, IN, IN, ("neg", (1,)), ("neg", (0,)))
        self.check(parts(web), ((0, 4), (1, 3), (2,)))
        self.check(parts(web=side_by_side(EXAMPLE, (IN,), TRIANGLE)), ((0, 1, 2, 3), (4,), (5, 6, 7)))

    def test_joined_through_a_step_that_stands_behind(self):
        self.check(parts((IN, IN, IN, ("neg", (1,)), ("+", (0, 2)))), ((0, 2, 4), (1, 3)))
        self.check(parts((("neg", (4,)), IN, ("neg", (3,)), IN, IN)), ((0, 4), (1,), (2, 3)))


class BlocksTest(ExactTest):

    def test_example(self):
        self.check(blocks(EXAMPLE), ((0, 2, 3), (1, 2)))
        self.check(shared_steps(EXAMPLE), (2,))
        self.check(row_of(EXAMPLE, (0, 2, 3)), (0, 2, 3))
        self.check(row_of(EXAMPLE, (1, 2)), (1, 2))

    def test_one_step_alone_is_no_block(self):
        self.check(blocks((IN,)), ())
        self.check(shared_steps((IN,)), ())
        self.check(blocks((IN,) * 10), ())
        self.check(blocks(side_by_side((IN,), TRIANGLE, (IN,))), ((1, 2, 3),))

    def test_blocks_of_two_steps(self):
        self.check(blocks(row(10)), tuple((step, step + 1) for step in range(9)))
        self.check(shared_steps(row(10)), tuple(range(1, 9)))
        self.check(row_of((("neg", (1,)), IN), (0, 1)), (1, 0))

    def test_several_ties_from_one_giver_to_one_taker(self):
        web = (("pick", (1, 1, 1)), IN)
        self.check(blocks(web), ((0, 1),))
        self.check(row_of(web, (0, 1)), (1, 0))
        self.check(shared_steps(web), ())

    def test_a_star_has_a_block_for_each_taker(self):
        web = (IN,) + (("neg", (0,)),) * 9
        self.check(blocks(web), tuple((0, step) for step in range(1, 10)))
        self.check(shared_steps(web), (0,))

    def test_a_block_without_a_row(self):
        self.check(blocks(SQUARE), ((0, 1, 2, 3),))
        self.check(row_of(SQUARE, (0, 1, 2, 3)), None)

    def test_blocks_that_share_a_step(self):
        self.check(blocks(AROUND), ((0, 2, 3), (1, 2, 4)))
        self.check(shared_steps(AROUND), (2,))
        self.check(row_of(AROUND, (1, 2, 4)), (1, 2, 4))

    def test_ties_to_two_shared_steps_make_one_block(self):
        # Two triangles over one tie hang together also if one of its ends is left out.
        web = (IN, ("neg", (0,)), ("+", (0, 1)), ("-", (0, 1)))
        self.check(blocks(web), ((0, 1, 2, 3),))
        self.check(row_of(web, (0, 1, 2, 3)), None)

    def test_a_ring_of_ties_whichever_way_they_go_is_one_block(self):
        web = (IN,) + tuple(("neg", (step,)) for step in range(8)) + (("+", (0, 8)),)
        self.check(blocks(web), (tuple(range(10)),))
        self.check(row_of(web, tuple(range(10))), tuple(range(10)))
        web = (IN,) + tuple(("neg", (step,)) for step in (0, 1, 2, 3)) + (("neg", (0,)), ("+", (4, 5)))
        self.check(blocks(web), (tuple(range(7)),))
        self.check(row_of(web, tuple(range(7))), None)

    def test_blocks_ascend_and_not_by_the_part(self):
        web = (IN, IN, ("neg", (1,)), ("neg", (0,)), ("neg", (3,)), ("neg", (2,)))
        self.check(parts(web), ((0, 3, 4), (1, 2, 5)))
        self.check(blocks(web), ((0, 3), (1, 2), (2, 5), (3, 4)))
        self.check(shared_steps(web), (2, 3))

    def test_a_step_in_three_blocks(self):
        web = (IN, ("neg", (4,)), IN, ("+", (0, 4)), ("+", (0, 2)))
        self.check(blocks(web), ((0, 3, 4), (1, 4), (2, 4)))
        self.check(shared_steps(web), (4,))

    def test_rows_in_any_numbering(self):
        web = (("+", (3, 1)), ("neg", (3,)), ("neg", (0,)), IN)
        self.check(blocks(web=web), ((0, 1, 3), (0, 2)))
        self.check(row_of(web=web, block=(0, 1, 3)), (3, 1, 0))
        self.check(row_of(web, (0, 2)), (0, 2))
        self.check(shared_steps(web=web), (0,))


if __name__ == "__main__":
    unittest.main()
