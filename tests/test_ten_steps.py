"""[1], [2] and [5] to [7] on webs of many steps, where nobody can look at all rows of the steps."""

import random
import time
import unittest
from itertools import islice

from pilepass.bars import bar, bar_holds
from pilepass.blocks import blocks, parts, row_of, shared_steps
from pilepass.heights import greatest_height, heights, least_height, lowest_order
from pilepass.orders import can_begin, order_count, order_error, order_of, orders
from pilepass.webs import web_error
from tests.formula import formula_count
from tests.samples import (
    AROUND, CROSSED, SQUARE, THREE_AROUND, UNCLOSED, ExactTest, any_web, numbered, row, side_by_side,
)
from tests.slow import slow_height, slow_order_error, slow_orders

RANDOM = random.Random(10)
IN = ("in", ())
PAIR = (IN, ("neg", (0,)))
GIVERS = (IN,) * 7

# Webs with many orders, and webs that come to many states, with and without a right order.
HARD = [
    (IN,) * 10,
    row(10),
    side_by_side(*[PAIR] * 5),
    (IN,) + (("neg", (0,)),) * 9,
    (IN,) * 9 + (("neg", (4,)),),
    GIVERS + (("pick", (0, 1, 2)), ("pick", (3, 4, 5)), ("pick", (6, 7, 8))),
    GIVERS + (("pick", (0, 2, 4)), ("pick", (1, 3, 5)), ("pick", (6, 7, 8))),
    GIVERS + (("pick", (0, 1, 2)), ("pick", (0, 3, 4)), ("pick", (0, 5, 6))),
    GIVERS + (("pick", (0, 1, 2)), ("pick", (2, 3, 4)), ("pick", (4, 5, 6))),
    GIVERS + (("pick", (0, 1, 2)), ("pick", (0, 3, 4)), ("pick", (1, 3, 5))),
    GIVERS + (("pick", (1, 4, 0)), ("pick", (5, 3, 0)), ("pick", (2, 1, 6))),
    (IN,) * 6 + (("pick", (0, 1, 2)), ("pick", (2, 3, 4)), ("pick", (4, 5, 0)), ("pick", (1, 3, 5))),
    (IN,) * 5 + (("+", (0, 1)), ("+", (1, 2)), ("+", (2, 3)), ("+", (3, 4)), ("+", (4, 0))),
    side_by_side(SQUARE, (IN,) * 6),
    side_by_side((IN,) * 5, AROUND),
    side_by_side(THREE_AROUND, (IN,) * 3),
    side_by_side(UNCLOSED, CROSSED, PAIR),
]
MANY = [numbered(web, RANDOM.sample(range(10), 10)) for web in HARD for _ in range(3)]
ANY = [any_web(RANDOM, many) for many in (8, 9, 10, 10) for _ in range(75)]
ALL = HARD + MANY + ANY

# Webs of few steps, so that the slow helpers can tell of them, with right orders.
FEW = [web for web in [any_web(RANDOM, many) for many in (1, 2, 3, 4, 5) for _ in range(12)] if slow_orders(web)]


class TenStepsTest(ExactTest):

    def test_they_are_webs(self):
        self.assertTrue(all(web_error(web) is None for web in ALL))
        self.assertGreater(len([web for web in ANY if order_of(web) is None]), 50)
        self.assertGreater(len([web for web in ANY if order_of(web) is not None]), 50)

    def test_exactly_one_of_order_and_bar_is_none(self):
        for web in ALL:
            self.assertNotEqual(order_of(web) is None, bar(web) is None)

    def test_the_first_order_is_right_and_the_bar_holds(self):
        for web in ALL:
            order, found = order_of(web), bar(web)
            if found is None:
                self.check(slow_order_error(web, order), None)
                self.check(order_error(web, order), None)
            else:
                self.check(bar_holds(web, found), True)

    def test_count_by_the_formula(self):
        for web in ALL:
            self.check(order_count(web), formula_count(web) if bar(web) is None else 0)

    def test_all_orders_where_they_are_not_too_many(self):
        for web in ALL:
            if order_count(web) <= 3000:
                found = list(orders(web))
                self.check(len(found), order_count(web))
                self.assertTrue(all(one < other for one, other in zip(found, found[1:])))
                self.check(order_of(web), found[0] if found else None)
                for order in found[::97]:
                    self.check(slow_order_error(web, order), None)

    def test_first_orders_where_they_are_many(self):
        for web in ALL:
            found = list(islice(orders(web), 200))
            self.assertTrue(all(one < other for one, other in zip(found, found[1:])))
            for order in found[::23]:
                self.check(slow_order_error(web, order), None)

    def test_what_a_right_order_begins_with(self):
        for web in ALL:
            for order in islice(orders(web), 3):
                for many in range(len(web) + 1):
                    self.check(can_begin(web, order[:many]), True)
                    # A step that is less than the one of the first order cannot stand here.
                    if order == order_of(web) and many < len(web):
                        for step in range(order[many]):
                            self.check(can_begin(web, order[:many] + (step,)), False)

    def test_heights_where_the_orders_are_not_too_many(self):
        for web in ALL:
            if 0 < order_count(web) <= 500:
                found = list(orders(web))
                told = [slow_height(web, order) for order in found]
                self.check([max(heights(web, order)) for order in found[::9]], told[::9])
                self.check(least_height(web), min(told))
                self.check(greatest_height(web), max(told))
                self.check(lowest_order(web), found[told.index(min(told))])

    def test_the_lowest_order_is_right_and_as_low_as_told(self):
        for web in ALL:
            order = lowest_order(web)
            self.check(order is None, order_of(web) is None)
            if order is not None:
                self.check(slow_order_error(web, order), None)
                self.check(slow_height(web, order), least_height(web))
                self.assertLessEqual(slow_height(web, order_of(web)), greatest_height(web))

    def test_webs_side_by_side(self):
        for one, other in zip(FEW, FEW[::-1]):
            web = numbered(side_by_side(one, other), RANDOM.sample(range(len(one + other)), len(one + other)))
            counts = [len(slow_orders(one)), len(slow_orders(other))]
            if len(parts(one)) == len(parts(other)) == 1:
                self.check(order_count(web), counts[0] * counts[1] * len(web))
            self.check(least_height(web), max(least_height(one), least_height(other)))
            self.check(greatest_height(web), greatest_height(one) + greatest_height(other))


class QuickTest(unittest.TestCase):

    def quick(self, call):
        start = time.process_time()
        call()
        self.assertLess(time.process_time() - start, 1)

    def test_no_call_takes_long(self):
        calls = (parts, blocks, shared_steps, order_of, order_count, bar, least_height, greatest_height, lowest_order)
        for web in ALL:
            for call in calls:
                self.quick(lambda: call(web))
            self.quick(lambda: can_begin(web, ()))
            self.quick(lambda: can_begin(web, (0,)))
            self.quick(lambda: order_error(web, tuple(range(len(web)))))
            self.quick(lambda: bar_holds(web, ("open", tuple(range(len(web))))))
            self.quick(lambda: [row_of(web, block) for block in blocks(web)])
            self.quick(lambda: next(orders(web), None))

    def test_orders_that_follow_come_at_once(self):
        for web in HARD:
            found = orders(web)
            for _ in range(50):
                self.quick(lambda: next(found, None))


if __name__ == "__main__":
    unittest.main()
