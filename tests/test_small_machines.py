"""[1] (c), [8] and [9] on many small webs in any numbering, against the slow helpers."""

import random
import unittest
from itertools import islice, permutations

from pilepass.errors import Left, Short
from pilepass.orders import orders
from pilepass.piles import is_plain, program, program_error, run
from pilepass.queues import queue_count, queue_error, queue_order_of, queue_orders, queue_program, run_queue
from pilepass.webs import meaning
from tests.samples import ExactTest, numbered, side_by_side
from tests.slow import (
    slow_is_plain, slow_machine, slow_meaning, slow_orders, slow_programs, slow_queue_error, slow_queue_orders,
)
from tests.states import count_by_states
from tests.test_small_webs import ALL, BARRED, LARGE, MIDDLE, SMALL, TINY

RANDOM = random.Random(8)
# All orders of a web of five steps are no more; of webs of six and seven steps these are the first ones.
FIRST = 120
SOME = TINY[::3] + SMALL[::5] + MIDDLE[::7] + LARGE[::5] + BARRED[::3]
# Webs of which parts are alike, in any numbering.
ALIKE = [
    numbered(web, RANDOM.sample(range(len(web)), len(web)))
    for one in TINY[::5] + SMALL[::900] for many in (2, 3) for web in [side_by_side(*[one] * many)] if len(web) <= 7
]


def worths_for(web, least=-9, greatest=9):
    return tuple(RANDOM.randint(least, greatest) for kind, _ in web if kind == "in")


def with_numbers(web):
    """The same web, but some of its "in" steps have a number as their kind, and some of the others other kinds."""
    kinds = {0: ("in", RANDOM.randint(-99, 99)), 1: ("neg",), 2: ("+", "-", "*"), 3: ("pick",)}
    return tuple((RANDOM.choice(kinds[len(inputs)]), inputs) for _, inputs in web)


def outcome(call, web, value, worths):
    """What run or run_queue does, as the slow machine tells it."""
    try:
        return ("results", call(web, value, worths))
    except Short as error:
        return ("short", error.index)
    except Left as error:
        return ("left", error.many)


def drawn_program(web):
    """A program with steps, takes and copies drawn at random, so that it often comes to its end."""
    order = RANDOM.sample(range(len(web)), len(web))
    if RANDOM.random() < 0.7:
        order.sort(key=lambda step: len(web[step][1]))
    most = RANDOM.choice((1, 2, 3, 30))
    return tuple(
        (step, tuple(RANDOM.sample(range(len(web[step][1])), len(web[step][1]))), RANDOM.randint(0, most))
        for step in order
    )


class QueueOrdersTest(ExactTest):

    def test_orders(self):
        for web in ALL + ALIKE:
            found = slow_queue_orders(web)
            self.check(tuple(queue_orders(web)), found)
            self.check(queue_order_of(web), found[0] if found else None)
            self.check(queue_count(web), len(found))

    def test_there_are_webs_of_all_sorts(self):
        """With and without right orders, with and without queue orders, each together with each."""
        for right in (True, False):
            for queue in (True, False):
                found = [web for web in ALL if (slow_orders(web) != ()) == right]
                self.assertGreater(len([web for web in found if (slow_queue_orders(web) != ()) == queue]), 50)

    def test_queue_error(self):
        for web in [web for web in SOME if len(web) < 7][::3]:
            for row in permutations(range(len(web))):
                self.check(queue_error(web, row), slow_queue_error(web, row))

    def test_counts_by_states_are_right(self):
        """What webs of ten steps are compared with is right itself."""
        for web in SOME:
            self.check(count_by_states(web, True), len(slow_queue_orders(web)))


class ProgramsTest(ExactTest):

    def test_programs_of_all_right_orders_run_to_the_results_of_meaning(self):
        for web in [with_numbers(web) for web in ALL]:
            worths = worths_for(web)
            told = slow_meaning(web, worths)
            self.check(meaning(web, worths), told)
            for order in islice(orders(web), FIRST):
                value = program(web, order)
                self.check(tuple(step for step, _, _ in value), order)
                self.check(program_error(web, value), None)
                self.check(is_plain(web, value), True)
                self.check(slow_is_plain(web, value), True)
                self.check(run(web, value, worths), told)

    def test_programs_of_all_queue_orders_run_to_the_results_of_meaning(self):
        for web in [with_numbers(web) for web in ALL]:
            worths = worths_for(web)
            told = slow_meaning(web, worths)
            for order in islice(queue_orders(web), FIRST):
                value = queue_program(web, order)
                self.check(tuple(step for step, _, _ in value), order)
                self.check(program_error(web, value), None)
                self.check(slow_is_plain(web, value, True), True)
                self.check(run_queue(web, value, worths), told)

    def test_the_least_place_takes_the_first_cell(self):
        """Of several cells of one giver: in each program the first of them, by the takes, is for the least place."""
        for web in SOME:
            values = [program(web, order) for order in islice(orders(web), 5)]
            values += [queue_program(web, order) for order in islice(queue_orders(web), 5)]
            for step, takes, _ in [item for value in values for item in value]:
                inputs = web[step][1]
                for place, giver in enumerate(inputs):
                    for other in range(place + 1, len(inputs)):
                        if inputs[other] == giver:
                            self.assertLess(takes[place], takes[other])

    def test_rows_of_plain_programs_are_just_the_right_orders(self):
        """No program with its steps in another order is plain, whatever it takes."""
        for web in [web for web in TINY + SMALL[::40] + MIDDLE[::60] if len(web) < 6]:
            found = []
            for value in slow_programs(web, permutations(range(len(web)))):
                plain = is_plain(web, value)
                self.check(plain, slow_is_plain(web, value))
                if plain:
                    found.append(tuple(step for step, _, _ in value))
            self.assertEqual(sorted(set(found)), list(slow_orders(web)))

    def test_drawn_programs(self):
        words = {call: {"results": 0, "short": 0, "left": 0} for call in (run, run_queue)}
        for web in [with_numbers(web) for web in SOME * 3]:
            value, worths = drawn_program(web), worths_for(web, -10 ** 40 + 1, 10 ** 40 - 1)
            self.check(program_error(web, value), None)
            for call in (run, run_queue):
                told = slow_machine(web, value, worths, call is run_queue)[0]
                self.check(outcome(call, web, value, worths), told)
                words[call][told[0]] += 1
            self.check(is_plain(web, value), slow_is_plain(web, value))
        self.assertTrue(all(many > 20 for told in words.values() for many in told.values()), words)

    def test_plain_programs_with_one_number_exchanged(self):
        for web in SOME[::4]:
            for value in [program(web, order) for order in islice(orders(web), 2)]:
                for index, (step, takes, copies) in enumerate(value):
                    others = [(step, other, copies) for other in permutations(takes)]
                    others += [(step, takes, other) for other in range(max(copies - 2, 0), copies + 3)]
                    for item in others:
                        other = value[:index] + (item,) + value[index + 1:]
                        self.check(is_plain(web, other), slow_is_plain(web, other))


if __name__ == "__main__":
    unittest.main()
