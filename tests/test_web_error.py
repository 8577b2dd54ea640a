"""[3]: web_error."""

import unittest
from itertools import permutations, product

from pilepass.webs import web_error
from tests.samples import EXAMPLE, KINDS, NO_TUPLES, ExactTest, nested, row, small_webs

GOOD = ("in", ())


def has_right_row(web):
    """Whether the steps can stand so that each one is behind its inputs, by trying all rows."""
    for steps in permutations(range(len(web))):
        at = {step: place for place, step in enumerate(steps)}
        if all(at[giver] < at[step] for step in steps for giver in web[step][1]):
            return True
    return False


class WebErrorTest(ExactTest):

    def told(self, value, error):
        """web_error tells this error of the value, by position and by name."""
        self.check(web_error(value), error)
        self.check(web_error(value=value), error)

    def step_told(self, step, word):
        """The step as the only one, as the first, as a middle and as the last one."""
        self.told((step,), (0, word))
        self.told((step, GOOD, GOOD), (0, word))
        self.told((GOOD, step, GOOD), (1, word))
        self.told((GOOD,) * 9 + (step,), (9, word))

    def test_webs(self):
        self.told(EXAMPLE, None)
        self.told(((7, ()),), None)
        self.told((("pick", (1, 1, 2)), ("neg", (2,)), GOOD), None)
        self.told((("*", (1, 1)), GOOD), None)

    def test_each_kind_with_its_number_of_inputs(self):
        for kind, many in KINDS.items():
            for told in range(5):
                web = (GOOD, (kind, (0,) * told))
                self.told(web, None if told == many else (1, "many"))

    def test_many_steps(self):
        for many in range(1, 11):
            self.told((GOOD,) * many, None)
            self.told(row(many), None)
        for many in (0, 11, 12, 100, 1000):
            self.told((GOOD,) * many, (None, "web"))
        self.told(row(11), (None, "web"))

    def test_no_tuple_is_no_web(self):
        for value in NO_TUPLES:
            self.told(value, (None, "web"))
        self.told(list(EXAMPLE), (None, "web"))
        self.told(dict(enumerate(EXAMPLE)), (None, "web"))

    def test_nested_tuples_are_no_webs(self):
        self.told(nested(11), (0, "step"))
        self.told((EXAMPLE,), (0, "step"))
        self.told(("in", ()), (0, "step"))
        self.told((GOOD, EXAMPLE), (1, "step"))

    def test_no_web_comes_ahead_of_faults_of_items(self):
        self.told((None,) * 11, (None, "web"))
        self.told(["x"] * 3, (None, "web"))

    def test_step_is_a_pair_with_a_tuple(self):
        for value in NO_TUPLES:
            self.step_told(value, "step")
            self.step_told(("in", value), "step")
        for step in ((), ("in",), ((),), ("in", (), ()), ("neg", 0), ("neg", [0]), ((), "in"), ("+", 0, 0)):
            self.step_told(step, "step")

    def test_step_as_list_is_no_pair(self):
        self.step_told(["in", ()], "step")
        self.step_told(["neg", [0]], "step")

    def test_integers_as_kinds(self):
        for number in range(-99, 100):
            self.told(((number, ()),), None)
        for number in (-101, -100, 100, 101, 10 ** 40 - 1, -(10 ** 40 - 1), 10 ** 5000):
            self.step_told((number, ()), "kind")
        self.step_told((5, (0,)), "many")
        self.step_told((-99, (0, 0)), "many")

    def test_no_kinds(self):
        for value in NO_TUPLES:
            if isinstance(value, bool) or value not in ("in", "neg", "pick", 0, 1, -1, 99):
                self.step_told((value, ()), "kind")
        for word in ("In", "in ", " in", "IN", "Neg", "/", "**", "+ ", "--", "in\n", "pic", "5", "-5"):
            self.step_told((word, ()), "kind")
        for kind in ((), ("in",), ("in", ()), (1,), nested(11)):
            self.step_told((kind, ()), "kind")

    def test_true_and_false_are_no_kinds(self):
        self.step_told((True, ()), "kind")
        self.step_told((False, ()), "kind")

    def test_inputs_are_step_numbers(self):
        for value in (*NO_TUPLES, (), (0,), 10, 11, -2):
            if isinstance(value, bool) or value not in (0, 1):
                self.told((GOOD, ("neg", (value,))), (1, "input"))
                self.told((GOOD, ("+", (0, value))), (1, "input"))
                self.told((GOOD, ("+", (value, 0))), (1, "input"))
                self.told((GOOD, ("pick", (0, 0, value))), (1, "input"))

    def test_true_and_false_are_no_inputs(self):
        self.told((GOOD, GOOD, ("neg", (True,))), (2, "input"))
        self.told((GOOD, GOOD, ("neg", (False,))), (2, "input"))
        self.told((GOOD, GOOD, ("-", (0, True))), (2, "input"))

    def test_first_and_last_step_numbers(self):
        for many in range(2, 11):
            web = (GOOD,) * (many - 1)
            self.told((("neg", (many - 1,)),) + web, None)
            self.told((("neg", (many,)),) + web, (0, "input"))
            self.told(web + (("neg", (0,)),), None)
            self.told(web + (("neg", (-1,)),), (many - 1, "input"))

    def test_rings(self):
        self.told((("neg", (0,)),), (None, "ring"))
        self.told((GOOD, ("+", (0, 1))), (None, "ring"))
        self.told((GOOD, ("pick", (0, 0, 1))), (None, "ring"))
        self.told((("neg", (1,)), ("neg", (0,))), (None, "ring"))
        self.told((("neg", (2,)), GOOD, ("+", (1, 3)), ("-", (1, 0))), (None, "ring"))
        ring = tuple(("neg", ((step + 1) % 10,)) for step in range(10))
        self.told(ring, (None, "ring"))
        self.told(ring[:9] + (GOOD,), None)

    def test_all_webs_of_few_steps(self):
        for many in (1, 2, 3):
            for web in small_webs(many):
                self.told(web, None if has_right_row(web) else (None, "ring"))

    def test_first_fault_of_a_step(self):
        self.step_told((None, [7]), "step")
        self.step_told((None, (7, 8)), "kind")
        self.step_told((100, (0,)), "kind")
        self.step_told((True, (0, 0, 0, 0)), "kind")
        self.step_told(("neg", (None, True)), "many")
        self.step_told(("in", (99,)), "many")
        self.step_told(("neg", (99,)), "input")

    def test_first_item_with_a_fault(self):
        faults = (
            (["in", ()], "step"), (("no", ()), "kind"), (("neg", ()), "many"), (("neg", (77,)), "input"),
        )
        for (one, word), (other, _) in product(faults, repeat=2):
            self.told((one, other), (0, word))
            self.told((GOOD, GOOD, one, GOOD, other), (2, word))

    def test_faults_of_items_come_ahead_of_a_ring(self):
        ring = (("neg", (1,)), ("neg", (0,)))
        for step, word in ((None, "step"), ((True, ()), "kind"), (("in", (0,)), "many"), (("neg", (3,)), "input")):
            self.told(ring + (step,), (2, word))

    def test_nothing_is_changed(self):
        value = [["in", []], {"neg": [0]}]
        web_error(value)
        web_error((value[0], value[1]))
        web_error((("in", value),))
        self.assertEqual(value, [["in", []], {"neg": [0]}])


if __name__ == "__main__":
    unittest.main()
