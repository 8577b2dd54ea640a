"""[5]: order_of, orders, order_count."""

import inspect
import unittest

from pilepass.orders import order_count, order_of, orders
from tests.samples import AROUND, EXAMPLE, SQUARE, ExactTest, row, side_by_side

IN = ("in", ())
TWICE = EXAMPLE[:3] + (("*", (2, 2)),)
PAIR = (IN, ("neg", (0,)))


class OrdersTest(ExactTest):

    def told(self, web, found):
        """These are all right orders, for all that tells of them, by position and by name."""
        self.check(tuple(orders(web)), found)
        self.check(tuple(orders(web=web)), found)
        self.check(order_of(web), found[0] if found else None)
        self.check(order_of(web=web), found[0] if found else None)
        self.check(order_count(web), len(found))
        self.check(order_count(web=web), len(found))

    def test_examples(self):
        self.told(EXAMPLE, ((0, 1, 2, 3),))
        self.told(TWICE, ((0, 1, 2, 3), (1, 0, 2, 3)))

    def test_one_step(self):
        self.told((IN,), ((0,),))
        self.told(((-99, ()),), ((0,),))

    def test_steps_without_a_tie(self):
        self.told((IN, IN), ((0, 1), (1, 0)))
        self.told((IN,) * 3, ((0, 1, 2), (0, 2, 1), (1, 0, 2), (1, 2, 0), (2, 0, 1), (2, 1, 0)))

    def test_no_right_order(self):
        self.told(SQUARE, ())
        self.told(AROUND, ())
        self.told(side_by_side((IN,), SQUARE), ())
        self.told((IN, ("neg", (0,)), ("neg", (0,)), ("+", (1, 2))), ())

    def test_one_right_order_of_ten_steps(self):
        self.told(row(10), (tuple(range(10)),))

    def test_several_ties_from_one_giver_to_one_taker(self):
        self.told((("pick", (1, 1, 1)), IN), ((1, 0),))
        self.told((IN, ("pick", (0, 0, 0)), ("+", (0, 1))), ((0, 1, 2),))

    def test_two_pairs_go_into_one_another(self):
        # (0, 2, 1, 3) and (2, 0, 3, 1) would cross.
        self.told(side_by_side(PAIR, PAIR), ((0, 1, 2, 3), (0, 2, 3, 1), (2, 0, 1, 3), (2, 3, 0, 1)))

    def test_numbers_that_run_against_the_ties(self):
        self.told((("neg", (1,)), ("neg", (2,)), IN), ((2, 1, 0),))

    def test_counts_of_webs_with_very_many_orders(self):
        self.check(order_count((IN,) * 10), 3628800)
        self.check(order_count((IN,) + (("neg", (0,)),) * 9), 362880)
        self.check(order_count(side_by_side(*[PAIR] * 5)), 10 * 9 * 8 * 7)
        self.check(order_count((IN,) * 3 + (("pick", (0, 1, 2)),) + (IN,) * 6), 6 * 10 * 9 * 8 * 7 * 6 * 5)

    def test_count_of_several_parts(self):
        self.check(order_count(side_by_side(TWICE, TWICE)), 2 * 2 * 8)
        self.check(order_count(side_by_side(TWICE, EXAMPLE, PAIR)), 2 * 1 * 1 * 10 * 9)
        self.check(order_count(side_by_side(TWICE, SQUARE)), 0)

    def test_orders_is_a_generator(self):
        self.assertTrue(inspect.isgeneratorfunction(orders))
        self.assertTrue(inspect.isgenerator(orders(EXAMPLE)))

    def test_first_orders_of_very_many(self):
        found = orders((IN,) * 10)
        self.check(next(found), tuple(range(10)))
        self.check(next(found), (0, 1, 2, 3, 4, 5, 6, 7, 9, 8))
        self.check(next(found), (0, 1, 2, 3, 4, 5, 6, 8, 7, 9))

    def test_generators_do_not_disturb_one_another(self):
        web = side_by_side(PAIR, PAIR, (IN,))
        whole = list(orders(web))
        one, other, left_behind = orders(web), orders(web), orders(web)
        self.check([next(left_behind) for _ in range(3)], whole[:3])
        found = []
        for place, order in enumerate(one):
            self.check(order, whole[place])
            if place % 3:
                found.append(next(other))
        self.check(found, whole[:len(found)])
        self.check(order_count(web), len(whole))
        self.check(list(other), whole[len(found):])
        self.check(next(left_behind), whole[3])

    def test_an_ended_generator_yields_no_more(self):
        found = orders(EXAMPLE)
        self.check(list(found), [(0, 1, 2, 3)])
        self.check(list(found), [])

    def test_equal_calls_return_equal_results(self):
        for web in (EXAMPLE, TWICE, SQUARE, AROUND):
            copy = tuple(list(web))
            self.check(list(orders(web)), list(orders(copy)))
            self.check(order_of(web), order_of(copy))
            self.check(order_count(web), order_count(copy))


if __name__ == "__main__":
    unittest.main()
