"""[2]: no call takes long but a walk through all orders, and that yields each order as soon as it is found."""

import sys
import time
import unittest
from itertools import islice

from pilepass.bars import bar, bar_holds
from pilepass.blocks import blocks, parts, row_of, shared_steps
from pilepass.heights import greatest_height, heights, least_height, lowest_order
from pilepass.looms import Loom, PileLoom
from pilepass.orders import can_begin, order_count, order_error, order_of, orders
from pilepass.piles import is_plain, program, program_error, run
from pilepass.queues import queue_count, queue_error, queue_order_of, queue_orders, queue_program, run_queue
from pilepass.texts import read_web, web_text
from pilepass.webs import leads, meaning, results, ties, web_error
from tests.samples import NO_TUPLES, ExactTest, row
from tests.test_ten_steps import ALL, HARD, IN

NEG = ("neg", (0,))
STAR = (IN,) + (NEG,) * 9
LOW = (IN, IN, ("+", (1, 1)), ("+", (0, 2))) + (IN,) * 6


def calls_made(call):
    """How many functions of Python are called, and generators gone on with, until the call has ended.

    This tells of the work that a call takes, and is the same on slow machines and on busy ones.
    """
    many = 0

    def note(frame, event, arg):
        nonlocal many
        many += event == "call"

    before = sys.getprofile()
    sys.setprofile(note)
    try:
        call()
    finally:
        sys.setprofile(before)
    return many


class QuickTest(unittest.TestCase):

    def quick(self, call):
        """No second goes by until the call has ended."""
        start = time.process_time()
        call()
        self.assertLess(time.process_time() - start, 1)

    def test_calls_with_a_web(self):
        calls = (
            web_error, ties, results, parts, blocks, shared_steps, order_of, order_count, bar, least_height,
            greatest_height, lowest_order, queue_order_of, queue_count, web_text,
        )
        for web in ALL:
            for call in calls:
                self.quick(lambda: call(web))
            self.quick(lambda: read_web(web_text(web)))
            self.quick(lambda: [row_of(web, block) for block in blocks(web)])
            self.quick(lambda: leads(web, 0, len(web) - 1))
            self.quick(lambda: meaning(web, (10 ** 40 - 1,) * 10))
            self.quick(lambda: next(orders(web), None))
            self.quick(lambda: next(queue_orders(web), None))

    def test_calls_with_a_value(self):
        for web in ALL:
            order = tuple(range(len(web)))
            value = tuple((step, tuple(range(len(web[step][1]))), 30) for step in order)
            for call in (order_error, queue_error, can_begin):
                self.quick(lambda: [call(web, order[:many]) for many in range(len(web) + 1)])
            for call in (program_error, is_plain):
                self.quick(lambda: call(web, value))
            for found in (bar(web), ("open", order), ("around", order, order), ("apart", order, 0, 1)):
                self.quick(lambda: bar_holds(web, found))

    def test_calls_with_an_order(self):
        for web in ALL:
            worths = (10 ** 40 - 1,) * 10
            for order in islice(orders(web), 2):
                self.quick(lambda: heights(web, order))
                self.quick(lambda: run(web, program(web, order), worths))
            for order in islice(queue_orders(web), 2):
                self.quick(lambda: run_queue(web, queue_program(web, order), worths))

    def test_looms(self):
        for web in ALL:
            loom = Loom(web)
            for call in (loom.first_order, loom.first_bar, loom.how_many, loom.twin):
                self.quick(call)
            if bar(web) is None:
                self.quick(lambda: PileLoom(web))
                self.quick(lambda: loom.run((1,) * 10))
            self.quick(lambda: loom.turn(0, (5, ())))
            self.quick(lambda: loom.undo() + loom.redo())

    def test_orders_that_follow_come_at_once(self):
        for web in HARD:
            for found in (orders(web), queue_orders(web)):
                for _ in range(50):
                    self.quick(lambda: next(found, None))


class FewCallsTest(ExactTest):
    """The answers of webs with many steps that no tie joins, and that they come without going through the orders."""

    def few(self, many, call, web, found):
        """The call returns this, and calls not more than so many functions for it."""
        self.check(call(web), found)
        self.assertLess(calls_made(lambda: call(web)), many)

    def test_steps_without_a_tie(self):
        web = (IN,) * 10
        self.few(300, order_count, web, 3628800)
        self.few(300, queue_count, web, 3628800)
        self.few(400, least_height, web, 0)
        self.few(400, greatest_height, web, 0)
        self.few(1500, lowest_order, web, tuple(range(10)))
        self.few(1500, order_of, web, tuple(range(10)))
        self.few(1500, queue_order_of, web, tuple(range(10)))

    def test_a_star(self):
        self.few(700, order_count, STAR, 362880)
        self.few(700, queue_count, STAR, 362880)
        self.few(1000, least_height, STAR, 9)
        self.few(1000, greatest_height, STAR, 9)
        self.few(3000, lowest_order, STAR, tuple(range(10)))

    def test_some_steps_with_a_tie(self):
        self.few(400, order_count, LOW, 2 * 10 * 9 * 8 * 7 * 6 * 5)
        self.few(700, least_height, LOW, 2)
        self.few(700, greatest_height, LOW, 3)
        self.few(2500, lowest_order, LOW, (1, 2, 0, 3, 4, 5, 6, 7, 8, 9))

    def test_all_orders_of_eight_steps_without_a_tie(self):
        for call in (orders, queue_orders):
            self.check(tuple(call((IN,) * 8)), tuple(sorted(call((IN,) * 8))))
            self.check(len(set(call((IN,) * 8))), 40320)
            # Not many more than the orders themselves, each of which is handed on by the generators.
            self.assertLess(calls_made(lambda: list(call((IN,) * 8))), 200000)

    def test_bar_holds_of_a_row(self):
        web = row(10)
        self.check(bar(web), None)
        for value in NO_TUPLES + ((), ("open",), ("open", (0, 1)), ("apart", (0, 1), 0, 1), ("cross", (0, 1), (0, 1, 0)),
                                  ("around", (0, 1), (1, 2)), ("open", tuple(range(10))), (("open", (0, 1)),),
                                  ("cross", (0, 1), (0, 1, 0), (1, 2, 0)), ("around", (0, 1), (0, 1))):
            self.check(bar_holds(web, value), False)
            self.assertLess(calls_made(lambda: bar_holds(web, value)), 150)
        for value in NO_TUPLES:
            self.assertLess(calls_made(lambda: bar_holds(web, value)), 5)

    def test_each_order_is_yielded_as_soon_as_it_is_found(self):
        """The first orders take little work, also where there are millions."""
        for call in (orders, queue_orders):
            for web in HARD:
                found = call(web)
                self.assertLess(calls_made(lambda: next(found, None)), 3000)
                for _ in range(20):
                    self.assertLess(calls_made(lambda: next(found, None)), 1500)


if __name__ == "__main__":
    unittest.main()
