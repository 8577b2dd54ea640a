"""[5]: order_error and can_begin, which take any value."""

import unittest
from itertools import permutations

from pilepass.orders import can_begin, order_error
from tests.samples import AROUND, EXAMPLE, NO_TUPLES, SQUARE, ExactTest, nested, row, with_a_part_replaced
from tests.slow import slow_order_error, slow_orders

IN = ("in", ())
TWICE = EXAMPLE[:3] + (("*", (2, 2)),)
WRONG_ITEMS = ((), (0,), (0, 1, 2), (0, 1, 2, 3, 4), (0, 1, 2, 3, 3), (0, 0, 1, 2), (0, 1, 2, 2), (1, 2, 3, 4),
               (-1, 0, 1, 2), (0, 1, 2, -1), (0, 1, 2, 4), (0, 1, 2, 10 ** 39), (3,) * 4, tuple(range(1000)))


class OrderErrorTest(ExactTest):

    def told(self, web, value, error):
        """order_error tells this, by position and by name."""
        self.check(order_error(web, value), error)
        self.check(order_error(web=web, value=value), error)

    def test_examples(self):
        self.told(EXAMPLE, (0, 1, 2, 3), None)
        self.told(EXAMPLE, (1, 0, 2, 3), ("cross", (1, 2, 1), (0, 3, 1)))
        self.told(TWICE, (0, 1, 2, 3), None)
        self.told(TWICE, (1, 0, 2, 3), None)

    def test_one_step(self):
        self.told((IN,), (0,), None)
        self.told((IN,), (), ("order",))
        self.told((IN,), (1,), ("order",))
        self.told((IN,), (0, 0), ("order",))

    def test_steps_without_a_tie_may_stand_in_any_order(self):
        for value in permutations(range(4)):
            self.told((IN,) * 4, value, None)
        self.told((IN,) * 10, tuple(range(9, -1, -1)), None)

    def test_no_tuples(self):
        for value in NO_TUPLES:
            self.told(EXAMPLE, value, ("order",))
            self.told((IN,), value, ("order",))
        for value in ([0, 1, 2, 3], {0: 0, 1: 1, 2: 2, 3: 3}, "0123", 123, nested(11), (nested(11),)):
            self.told(EXAMPLE, value, ("order",))

    def test_not_each_step_just_once(self):
        for value in WRONG_ITEMS:
            self.told(EXAMPLE, value, ("order",))

    def test_parts_replaced(self):
        for value in with_a_part_replaced((0, 1, 2, 3)):
            self.told(EXAMPLE, value, ("late", (0, 2, 0)) if value == (3, 2, 1, 0) else ("order",))
        for item in NO_TUPLES:
            if isinstance(item, bool) or item != 3:
                self.told(EXAMPLE, (0, 1, 2, item), ("order",))

    def test_true_and_false_are_no_step_numbers(self):
        self.told(EXAMPLE, (0, True, 2, 3), ("order",))
        self.told(EXAMPLE, (False, 1, 2, 3), ("order",))
        self.told((IN, IN), (True, False), ("order",))
        self.told((IN,), (False,), ("order",))

    def test_late_tells_the_least_tie(self):
        self.told(EXAMPLE, (3, 2, 1, 0), ("late", (0, 2, 0)))
        self.told(EXAMPLE, (0, 2, 1, 3), ("late", (1, 2, 1)))
        self.told(EXAMPLE, (0, 1, 3, 2), ("late", (2, 3, 0)))
        self.told(EXAMPLE, (1, 2, 3, 0), ("late", (0, 2, 0)))
        self.told((("pick", (1, 1, 1)), IN), (0, 1), ("late", (1, 0, 0)))
        self.told((("+", (2, 1)), IN, IN), (0, 2, 1), ("late", (1, 0, 1)))
        self.told(row(10), tuple(range(9, -1, -1)), ("late", (0, 1, 0)))

    def test_late_comes_ahead_of_cross(self):
        web = (IN, IN, ("neg", (0,)), ("neg", (1,)), ("neg", (3,)))
        self.told(web, (0, 1, 2, 3, 4), ("cross", (0, 2, 0), (1, 3, 0)))
        self.told(web, (0, 1, 2, 4, 3), ("late", (3, 4, 0)))

    def test_order_comes_ahead_of_all(self):
        self.told(EXAMPLE, (3, 2, 1, 1), ("order",))
        self.told(EXAMPLE, (1, 0, 2, 3, 3), ("order",))
        self.told(EXAMPLE, (1, 0, 2, True), ("order",))
        self.told(EXAMPLE, [1, 0, 2, 3], ("order",))

    def test_cross_tells_the_least_pair(self):
        web = (IN, IN, ("+", (0, 0)), ("*", (1, 1)))
        self.told(web, (0, 1, 2, 3), ("cross", (0, 2, 0), (1, 3, 0)))
        self.told(web, (1, 0, 3, 2), ("cross", (1, 3, 0), (0, 2, 0)))
        self.told(web, (1, 0, 2, 3), None)
        # Of two pairs that cross, the least one is told, and not the one that crosses first.
        web = (IN, ("neg", (0,)), IN, ("neg", (2,)), IN, ("neg", (4,)))
        self.told(web, (4, 2, 5, 0, 3, 1), ("cross", (2, 3, 0), (0, 1, 0)))
        self.told(web, (4, 2, 0, 5, 3, 1), ("cross", (2, 3, 0), (0, 1, 0)))
        self.told(web, (0, 2, 4, 1, 3, 5), ("cross", (0, 1, 0), (2, 3, 0)))

    def test_ties_that_share_a_step_do_not_cross(self):
        self.told((IN,) + (("neg", (0,)),) * 3, (0, 3, 1, 2), None)
        self.told((IN, IN, IN, ("pick", (1, 0, 2))), (2, 0, 1, 3), None)
        self.told(row(4), (0, 1, 2, 3), None)
        self.told((IN, ("pick", (0, 0, 0)), ("+", (1, 0))), (0, 1, 2), None)

    def test_ties_within_one_another_do_not_cross(self):
        self.told((IN, IN, ("neg", (1,)), ("neg", (0,))), (0, 1, 2, 3), None)
        self.told((IN, IN, ("neg", (1,)), ("neg", (0,))), (1, 0, 3, 2), None)
        self.told((IN, IN, ("neg", (1,)), ("neg", (0,))), (0, 3, 1, 2), None)

    def test_nothing_is_changed(self):
        value = [[0, 1], {2: 3}]
        for call in (order_error, can_begin):
            call(EXAMPLE, value)
            call(EXAMPLE, (value, 1, 2, 3))
            self.assertEqual(value, [[0, 1], {2: 3}])


class CanBeginTest(ExactTest):

    def told(self, web, value, answer):
        """can_begin tells this, by position and by name."""
        self.check(can_begin(web, value), answer)
        self.check(can_begin(web=web, value=value), answer)

    def test_example(self):
        for value in ((), (0,), (0, 1), (0, 1, 2), (0, 1, 2, 3)):
            self.told(EXAMPLE, value, True)
        for value in ((1,), (2,), (3,), (0, 2), (1, 0), (1, 0, 2), (1, 0, 2, 3), (0, 1, 3), (0, 1, 3, 2)):
            self.told(EXAMPLE, value, False)
        self.told(TWICE, (1,), True)
        self.told(TWICE, (1, 0, 2), True)

    def test_no_right_order_begins_with_nothing(self):
        for web in (SQUARE, AROUND):
            for value in ((), (0,), (1,), (0, 1), (0, 1, 2)):
                self.told(web, value, False)

    def test_one_step(self):
        self.told((IN,), (), True)
        self.told((IN,), (0,), True)
        self.told((IN,), (1,), False)
        self.told((IN,), (0, 0), False)

    def test_a_step_that_seems_to_fit_but_bars_what_is_to_come(self):
        # Step 0 is taken in the middle of the block 1, 2, 3: it cannot stand ahead of it.
        web = (IN, IN, ("+", (0, 1)), ("+", (1, 2)))
        self.told(web, (0,), False)
        self.told(web, (1,), True)
        self.told(web, (1, 0), True)

    def test_no_tuples(self):
        for value in NO_TUPLES:
            self.told(EXAMPLE, value, False)
            self.told((IN,), value, False)
        for value in ([0, 1], [], {}, {0: 0}, "0", "", 0, nested(11), (nested(11),), ((0,), 1), ((),)):
            self.told(EXAMPLE, value, False)

    def test_steps_more_than_once_and_no_steps(self):
        for value in ((0, 0), (0, 1, 1), (0, 1, 2, 3, 3), (0, 1, 2, 3, 0), (0, 1, 2, 3, 4), (4,), (-1,), (0, -3),
                      (0, 1, -2, 3), (10 ** 39,), tuple(range(1000)), (0,) * 1000, (0, 1, 2, 3, None)):
            self.told(EXAMPLE, value, False)

    def test_true_and_false_are_no_step_numbers(self):
        for value in ((False,), (0, True), (False, 1, 2, 3), (0, True, 2, 3)):
            self.told(EXAMPLE, value, False)
        self.told((IN, IN), (True,), False)

    def test_parts_replaced(self):
        for right in ((), (0,), (0, 1), (0, 1, 2), (0, 1, 2, 3)):
            for value in with_a_part_replaced(right):
                whole = isinstance(value, tuple) and all(type(item) is int for item in value)
                self.told(EXAMPLE, value, whole and (0, 1, 2, 3)[:len(value)] == value)
        for item in NO_TUPLES:
            if isinstance(item, bool) or item != 1:
                self.told(EXAMPLE, (0, item), False)
                self.told(EXAMPLE, (0, item, 2, 3), False)

    def test_steps_without_a_tie(self):
        web = (IN,) * 10
        for value in ((), (9,), (9, 0, 8), tuple(range(9, -1, -1))):
            self.told(web, value, True)
        self.told(web, (9, 0, 9), False)
        self.told(web, tuple(range(11)), False)


class SlowTest(ExactTest):

    def test_all_rows_of_the_steps(self):
        for web in (EXAMPLE, TWICE, SQUARE, AROUND, row(5), (IN,) * 4, (IN, ("pick", (0, 0, 0)), IN, ("+", (2, 1)))):
            for value in permutations(range(len(web))):
                self.check(order_error(web, value), slow_order_error(web, value))


if __name__ == "__main__":
    unittest.main()
