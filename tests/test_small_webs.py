"""[1], [4] to [7] on many small webs in any numbering, against the slow helpers."""

import random
import unittest
from itertools import permutations

from pilepass.bars import bar, bar_holds
from pilepass.blocks import blocks, parts, row_of, shared_steps
from pilepass.heights import greatest_height, heights, least_height, lowest_order
from pilepass.orders import can_begin, order_count, order_error, order_of, orders
from pilepass.webs import web_error
from tests.samples import (
    AROUND, CROSSED, CROSSED_AROUND, SQUARE, THREE_AROUND, TIED_MIDDLES, UNCLOSED, ExactTest, any_web, numbered,
    plain_webs, side_by_side, small_webs,
)
from tests.slow import (
    slow_bars, slow_blocks, slow_height, slow_heights, slow_order_error, slow_orders, slow_parts, slow_row_of,
    slow_shared_steps,
)
from tests.states import count_by_states, heights_by_states

RANDOM = random.Random(5)
TINY = [web for many in (1, 2, 3) for web in small_webs(many) if web_error(web) is None]
SMALL = [numbered(web, row) for web in plain_webs(4) for row in permutations(range(4))]
MIDDLE = [numbered(web, RANDOM.sample(range(5), 5)) for web in plain_webs(5)]
LARGE = [any_web(RANDOM, many) for many, times in ((5, 300), (6, 300), (7, 60)) for _ in range(times)]
# Random webs seldom have the rarer bars.
SHAPES = [
    AROUND, TIED_MIDDLES, THREE_AROUND, side_by_side(AROUND, AROUND[:2]), side_by_side(UNCLOSED, AROUND[:3]),
    side_by_side(SQUARE, AROUND[:3]), CROSSED, CROSSED_AROUND,
]
BARRED = [numbered(web, RANDOM.sample(range(len(web)), len(web))) for web in SHAPES for _ in range(12)]
ALL = list(dict.fromkeys(TINY + SMALL + MIDDLE + LARGE + BARRED))


def some_bars_with_a_fault(found):
    """Tuples like this bar, with two parts exchanged or one number another one."""
    yield found[:1] + found[:0:-1]
    yield found[:-1]
    yield found + found[-1:]
    for word in ("apart", "open", "cross", "around"):
        yield (word,) + found[1:]
    for at, part in enumerate(found):
        if isinstance(part, int):
            for other in range(-1, 7):
                yield found[:at] + (other,) + found[at + 1:]
        elif isinstance(part, tuple):
            for place in range(len(part)):
                for other in range(-1, 7):
                    yield found[:at] + (part[:place] + (other,) + part[place + 1:],) + found[at + 1:]


class SmallWebsTest(ExactTest):

    def test_there_are_webs_of_all_sorts(self):
        self.assertTrue(all(web_error(web) is None for web in ALL))
        words = [found[0][0] for found in map(slow_bars, ALL) if found]
        for word in ("apart", "open", "cross", "around"):
            self.assertGreater(words.count(word), 20, word)
        for many in (1, 2, 3, 4, 6, 12, 24):
            self.assertTrue(any(len(slow_orders(web)) == many for web in ALL), many)

    def test_blocks(self):
        for web in ALL:
            self.check(parts(web), slow_parts(web))
            self.check(blocks(web), slow_blocks(web))
            self.check(shared_steps(web), slow_shared_steps(web))
            for block in slow_blocks(web):
                self.check(row_of(web, block), slow_row_of(web, block))

    def test_each_tie_lies_in_one_block_and_two_blocks_share_at_most_one_step(self):
        for web in ALL:
            found = blocks(web)
            for taker, (_, inputs) in enumerate(web):
                for giver in inputs:
                    self.assertEqual(len([block for block in found if giver in block and taker in block]), 1)
            for block in found:
                for other in found:
                    self.assertTrue(block == other or len(set(block) & set(other)) <= 1)

    def test_orders(self):
        for web in ALL:
            found = slow_orders(web)
            self.check(tuple(orders(web)), found)
            self.check(order_of(web), found[0] if found else None)
            self.check(order_count(web), len(found))

    def test_order_error(self):
        for web in TINY + SMALL[::7] + MIDDLE[::9] + [web for web in LARGE if len(web) < 7][::30]:
            for row in permutations(range(len(web))):
                self.check(order_error(web, row), slow_order_error(web, row))

    def test_can_begin(self):
        for web in TINY[::5] + SMALL[::7] + MIDDLE[::9] + [web for web in LARGE if len(web) < 7][::30]:
            begun = {order[:many] for order in slow_orders(web) for many in range(len(web) + 1)}
            for many in range(len(web) + 1):
                for value in permutations(range(len(web)), many):
                    self.check(can_begin(web, value), value in begun)

    def test_bars(self):
        for web in ALL:
            found = slow_bars(web)
            self.check(bar(web), found[0] if found else None)

    def test_bar_holds(self):
        for web in SMALL[::7] + MIDDLE[::9] + LARGE[::9] + BARRED[::2]:
            found = slow_bars(web)
            for value in found:
                self.check(bar_holds(web, value), True)
            for value in [fault for told in found[:3] for fault in some_bars_with_a_fault(told)]:
                self.check(bar_holds(web, value), value in found)
            for block in slow_blocks(web):
                self.check(bar_holds(web, ("open", block)), ("open", block) in found)
                for other in slow_blocks(web):
                    value = ("around", block, other)
                    self.check(bar_holds(web, value), value in found)

    def test_exactly_one_of_order_and_bar_is_none(self):
        for web in ALL:
            self.assertNotEqual(order_of(web) is None, bar(web) is None)
            self.assertNotEqual(len(slow_orders(web)) == 0, len(slow_bars(web)) == 0)

    def test_told_by_states(self):
        """What webs of ten steps are compared with is right itself."""
        for web in ALL[::3]:
            found = slow_orders(web)
            told = [slow_height(web, order) for order in found[:1000]]
            self.check(count_by_states(web), len(found))
            if len(found) <= 1000:
                least = (min(told), max(told), found[told.index(min(told))]) if told else None
                self.check(heights_by_states(web), least)

    def test_heights(self):
        for web in ALL:
            found = slow_orders(web)
            for order in found[:20]:
                self.check(heights(web, order), slow_heights(web, order))

    def test_least_and_greatest_height_and_lowest_order(self):
        for web in ALL:
            found = slow_orders(web)
            told = [slow_height(web, order) for order in found[:1000]]
            if len(found) <= 1000:
                self.check(least_height(web), min(told) if told else None)
                self.check(greatest_height(web), max(told) if told else None)
                self.check(lowest_order(web), found[told.index(min(told))] if told else None)


if __name__ == "__main__":
    unittest.main()
