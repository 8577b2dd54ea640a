"""Webs and other values that several tests use."""

import unittest
from itertools import product

# The example of [3].
EXAMPLE = (("in", ()), ("in", ()), ("+", (0, 1)), ("*", (2, 0)))

KINDS = {"in": 0, "neg": 1, "+": 2, "-": 2, "*": 2, "pick": 3}


def nested(depth):
    """A value of lists, tuples and dicts, nested so deep."""
    value = "in"
    for level in range(depth):
        value = ([value], (value,), {"in": value})[level % 3]
    return value


# Values of all kinds that [2] names, and none of them a web, a step or a tuple of numbers.
NO_TUPLES = (
    None, True, False, 0, 1, -1, 99, 10 ** 40 - 1, -(10 ** 40 - 1),
    "", "in", "neg", "pick", "a\nb", "~" * 2000,
    [], [0], [("in", ())], ["in", ()], {}, {"in": ()}, {0: ("in", ())}, {(): None},
    nested(10), nested(12), [None] * 999,
)


def small_webs(many):
    """All tuples of so many steps of the kinds "in", "neg" and "-" with any step numbers as inputs."""
    numbers = range(many)
    steps = [("in", ())]
    steps += [("neg", (one,)) for one in numbers]
    steps += [("-", pair) for pair in product(numbers, repeat=2)]
    return product(steps, repeat=many)


def row(many):
    """A web of so many steps, each but the first one taking the one ahead of it."""
    return (("in", ()),) + tuple(("neg", (step,)) for step in range(many - 1))


def same(one, other):
    """Whether two values are equal with their kinds, at every depth, where Python tells True from 1."""
    if type(one) is not type(other):
        return False
    if isinstance(one, (tuple, list)):
        return len(one) == len(other) and all(same(a, b) for a, b in zip(one, other))
    return one == other


def shown(value):
    """The value as text; Python refuses to print integers of thousands of digits."""
    try:
        return repr(value)
    except ValueError:
        return "a value that is too long to show"


class ExactTest(unittest.TestCase):
    """Tests that tell True from 1, which assertEqual does not."""

    def check(self, found, told):
        if not same(found, told):
            self.fail(f"found {shown(found)}, but it is {shown(told)}")
