"""[1], [2] and [5] to [9] on webs of many steps, where nobody can look at all rows of the steps."""

import random
import unittest
from itertools import islice

from pilepass.bars import bar, bar_holds
from pilepass.blocks import blocks, parts, row_of, shared_steps
from pilepass.heights import greatest_height, heights, least_height, lowest_order
from pilepass.orders import can_begin, order_count, order_error, order_of, orders
from pilepass.piles import is_plain, program, run
from pilepass.queues import (
    queue_count, queue_error, queue_order_of, queue_orders, queue_program, run_queue,
)
from pilepass.webs import web_error
from tests.samples import (
    AROUND, CROSSED, EXAMPLE, SQUARE, THREE_AROUND, UNCLOSED, ExactTest, any_web, numbered, row, side_by_side,
)
from tests.slow import slow_height, slow_meaning, slow_order_error, slow_orders, slow_queue_error
from tests.states import count_by_states, heights_by_states

RANDOM = random.Random(10)
IN = ("in", ())
PAIR = (IN, ("neg", (0,)))
GIVERS = (IN,) * 7

# Webs with many orders, and webs that come to many states, with and without a right order.
HARD = [
    (IN,) * 10,
    row(10),
    side_by_side(*[PAIR] * 5),
    (IN,) + (("neg", (0,)),) * 9,
    (IN,) * 9 + (("neg", (4,)),),
    GIVERS + (("pick", (0, 1, 2)), ("pick", (3, 4, 5)), ("pick", (6, 7, 8))),
    GIVERS + (("pick", (0, 2, 4)), ("pick", (1, 3, 5)), ("pick", (6, 7, 8))),
    GIVERS + (("pick", (0, 1, 2)), ("pick", (0, 3, 4)), ("pick", (0, 5, 6))),
    GIVERS + (("pick", (0, 1, 2)), ("pick", (2, 3, 4)), ("pick", (4, 5, 6))),
    GIVERS + (("pick", (0, 1, 2)), ("pick", (0, 3, 4)), ("pick", (1, 3, 5))),
    GIVERS + (("pick", (1, 4, 0)), ("pick", (5, 3, 0)), ("pick", (2, 1, 6))),
    (IN,) * 6 + (("pick", (0, 1, 2)), ("pick", (2, 3, 4)), ("pick", (4, 5, 0)), ("pick", (1, 3, 5))),
    (IN,) * 5 + (("+", (0, 1)), ("+", (1, 2)), ("+", (2, 3)), ("+", (3, 4)), ("+", (4, 0))),
    side_by_side(SQUARE, (IN,) * 6),
    side_by_side((IN,) * 5, AROUND),
    side_by_side(THREE_AROUND, (IN,) * 3),
    side_by_side(UNCLOSED, CROSSED, PAIR),
    side_by_side(EXAMPLE, EXAMPLE, PAIR),
    side_by_side(*[(IN, ("neg", (0,)), ("neg", (0,)))] * 3, (IN,)),
    side_by_side(*[(IN, IN, ("+", (0, 1)))] * 3, (IN,)),
    side_by_side(*[(IN, ("neg", (0,)), ("+", (0, 1)))] * 2, PAIR, PAIR),
    # The longest to count the queue orders of, and to find that there is none, of some thousands of drawn webs.
    side_by_side((IN, ("-", (0, 0)), ("neg", (1,))), PAIR, PAIR, PAIR[:1], PAIR),
]
MANY = [numbered(web, RANDOM.sample(range(10), 10)) for web in HARD for _ in range(3)]
ANY = [any_web(RANDOM, many) for many in (8, 9, 10, 10) for _ in range(75)]
ALL = HARD + MANY + ANY

# Webs of few steps, so that the slow helpers can tell of them, with right orders.
FEW = [web for web in [any_web(RANDOM, many) for many in (1, 2, 3, 4, 5) for _ in range(12)] if slow_orders(web)]


class TenStepsTest(ExactTest):

    def test_they_are_webs(self):
        self.assertTrue(all(web_error(web) is None for web in ALL))
        self.assertGreater(len([web for web in ANY if order_of(web) is None]), 50)
        self.assertGreater(len([web for web in ANY if order_of(web) is not None]), 50)

    def test_exactly_one_of_order_and_bar_is_none(self):
        for web in ALL:
            self.assertNotEqual(order_of(web) is None, bar(web) is None)

    def test_the_first_order_is_right_and_the_bar_holds(self):
        for web in ALL:
            order, found = order_of(web), bar(web)
            if found is None:
                self.check(slow_order_error(web, order), None)
                self.check(order_error(web, order), None)
            else:
                self.check(bar_holds(web, found), True)

    def test_what_is_told_by_states(self):
        for web in HARD + MANY[::3] + ANY[::3]:
            self.check(order_count(web), count_by_states(web))
            self.check(queue_count(web), count_by_states(web, True))
            told = heights_by_states(web) or (None, None, None)
            self.check((least_height(web), greatest_height(web), lowest_order(web)), told)

    def test_all_orders_where_they_are_not_too_many(self):
        for web in ALL:
            if order_count(web) <= 3000:
                found = list(orders(web))
                self.check(len(found), order_count(web))
                self.assertTrue(all(one < other for one, other in zip(found, found[1:])))
                self.check(order_of(web), found[0] if found else None)
                for order in found[::97]:
                    self.check(slow_order_error(web, order), None)

    def test_first_orders_where_they_are_many(self):
        for web in ALL:
            found = list(islice(orders(web), 200))
            self.assertTrue(all(one < other for one, other in zip(found, found[1:])))
            for order in found[::23]:
                self.check(slow_order_error(web, order), None)

    def test_queue_orders(self):
        for web in ALL:
            many, first = queue_count(web), queue_order_of(web)
            self.check(first is None, many == 0)
            found = list(islice(queue_orders(web), 3001 if many <= 3000 else 300))
            self.check(len(found), many if many <= 3000 else 300)
            self.check(first, found[0] if found else None)
            self.assertTrue(all(one < other for one, other in zip(found, found[1:])))
            for order in found[::53]:
                self.check(slow_queue_error(web, order), None)
                self.check(queue_error(web, order), None)

    def test_programs_run_to_the_results_of_meaning(self):
        for web in ALL:
            worths = tuple(RANDOM.randint(-10 ** 40 + 1, 10 ** 40 - 1) for kind, _ in web if kind == "in")
            told = slow_meaning(web, worths)
            for order in islice(orders(web), 2):
                self.check(is_plain(web, program(web, order)), True)
                self.check(run(web, program(web, order), worths), told)
                if order[::-1] != order:
                    self.check(is_plain(web, program(web, order)[::-1]), order_error(web, order[::-1]) is None)
            for order in islice(queue_orders(web), 2):
                self.check(run_queue(web, queue_program(web, order), worths), told)

    def test_what_a_right_order_begins_with(self):
        for web in ALL:
            for order in islice(orders(web), 3):
                for many in range(len(web) + 1):
                    self.check(can_begin(web, order[:many]), True)
                    # A step that is less than the one of the first order cannot stand here.
                    if order == order_of(web) and many < len(web):
                        for step in range(order[many]):
                            self.check(can_begin(web, order[:many] + (step,)), False)

    def test_heights_where_the_orders_are_not_too_many(self):
        for web in ALL:
            if 0 < order_count(web) <= 500:
                found = list(orders(web))
                told = [slow_height(web, order) for order in found]
                self.check([max(heights(web, order)) for order in found[::9]], told[::9])
                self.check(least_height(web), min(told))
                self.check(greatest_height(web), max(told))
                self.check(lowest_order(web), found[told.index(min(told))])

    def test_the_lowest_order_is_right_and_as_low_as_told(self):
        for web in ALL:
            order = lowest_order(web)
            self.check(order is None, order_of(web) is None)
            if order is not None:
                self.check(slow_order_error(web, order), None)
                self.check(slow_height(web, order), least_height(web))
                self.assertLessEqual(slow_height(web, order_of(web)), greatest_height(web))

    def test_webs_side_by_side(self):
        for one, other in zip(FEW, FEW[::-1]):
            web = numbered(side_by_side(one, other), RANDOM.sample(range(len(one + other)), len(one + other)))
            counts = [len(slow_orders(one)), len(slow_orders(other))]
            if len(parts(one)) == len(parts(other)) == 1:
                self.check(order_count(web), counts[0] * counts[1] * len(web))
            self.check(least_height(web), max(least_height(one), least_height(other)))
            self.check(greatest_height(web), greatest_height(one) + greatest_height(other))


if __name__ == "__main__":
    unittest.main()
