"""Webs and other values that several tests use."""

import unittest
from itertools import combinations, product

# The example of [3].
EXAMPLE = (("in", ()), ("in", ()), ("+", (0, 1)), ("*", (2, 0)))

# Two steps that take from the same two: neither of the four can lead to all others.
SQUARE = (("in", ()), ("in", ()), ("+", (0, 1)), ("-", (0, 1)))

# Step 2 stands in the middle of the rows of two blocks.
AROUND = (("in", ()), ("in", ()), ("+", (0, 1)), ("+", (2, 0)), ("+", (2, 1)))

# Step 0 stands in the middle of the rows of three blocks.
THREE_AROUND = (
    ("pick", (1, 3, 5)), ("in", ()), ("+", (0, 1)), ("in", ()), ("+", (0, 3)), ("in", ()), ("+", (0, 5)),
)

# The middle steps of the rows of two blocks that share no step are tied, 1 to 4.
TIED_MIDDLES = (("in", ()), ("neg", (0,)), ("+", (0, 1)), ("in", ()), ("+", (1, 3)), ("+", (3, 4)))

# A block with a row that no tie closes.
UNCLOSED = (("in", ()), ("neg", (0,)), ("+", (0, 1)), ("+", (1, 2)))

# A block with a row in which two ties cross and that no other bar shows.
CROSSED = (("in", ()), ("neg", (0,)), ("+", (0, 1)), ("pick", (0, 1, 2)))

# The same, and a block of three steps that has the step 1 in the middle of its row, too.
CROSSED_AROUND = CROSSED[:1] + (("+", (0, 4)),) + CROSSED[2:] + (("in", ()), ("+", (4, 1)))

KINDS = {"in": 0, "neg": 1, "+": 2, "-": 2, "*": 2, "pick": 3}


def nested(depth):
    """A value of lists, tuples and dicts, nested so deep."""
    value = "in"
    for level in range(depth):
        value = ([value], (value,), {"in": value})[level % 3]
    return value


# Values of all kinds that [2] names, and none of them a web, a step or a tuple of numbers.
NO_TUPLES = (
    None, True, False, 0, 1, -1, 99, 10 ** 40 - 1, -(10 ** 40 - 1),
    "", "in", "neg", "pick", "a\nb", "~" * 2000,
    [], [0], [("in", ())], ["in", ()], {}, {"in": ()}, {0: ("in", ())}, {(): None},
    nested(10), nested(12), [None] * 999,
)


def small_webs(many):
    """All tuples of so many steps of the kinds "in", "neg" and "-" with any step numbers as inputs."""
    numbers = range(many)
    steps = [("in", ())]
    steps += [("neg", (one,)) for one in numbers]
    steps += [("-", pair) for pair in product(numbers, repeat=2)]
    return product(steps, repeat=many)


def row(many):
    """A web of so many steps, each but the first one taking the one ahead of it."""
    return (("in", ()),) + tuple(("neg", (step,)) for step in range(many - 1))


def step_with(inputs):
    """A step with these inputs, of a kind that has so many."""
    return (("in", "neg", "-", "pick")[len(inputs)], tuple(inputs))


def plain_webs(many):
    """All webs of so many steps that take from steps ahead of them only, and from none of these twice."""
    choices = [
        [step_with(inputs) for needed in range(4) for inputs in combinations(range(step), needed)]
        for step in range(many)
    ]
    return product(*choices)


def any_web(rng, many):
    """A web of so many steps in any numbering, by a source of random numbers; inputs may be equal."""
    share = rng.choice((0.2, 0.35, 0.5))
    steps = []
    for step in range(many):
        needed = 0 if step == 0 or rng.random() < share else rng.choice((1, 1, 2, 2, 3))
        steps.append([rng.randrange(step) for _ in range(needed)])
    return numbered([step_with(inputs) for inputs in steps], rng.sample(range(many), many))


def numbered(web, row):
    """The web with the step row[i] as the step i."""
    return tuple((web[old][0], tuple(row.index(giver) for giver in web[old][1])) for old in row)


def side_by_side(*webs):
    """The web with the steps of all these webs, one web behind the other."""
    steps = ()
    for web in webs:
        first = len(steps)
        steps += tuple((kind, tuple(first + giver for giver in inputs)) for kind, inputs in web)
    return steps


OTHERS = (None, True, False, -1, 0, 1, 2, 3, 99, 10 ** 39, "", "x", "open", (), [], {}, (0,), (0, 1), [0, 1])


def with_a_part_replaced(value):
    """Values that are like this one but for one part, at any depth; none of them is the same."""
    others = list(OTHERS)
    if isinstance(value, tuple):
        others += [list(value), dict(enumerate(value)), value + (0,), value[:-1], value[::-1], (value,)]
        for at, part in enumerate(value):
            others += [value[:at] + (other,) + value[at + 1:] for other in with_a_part_replaced(part)]
    else:
        others += [str(value), value * 2, (value,)]
    return [other for other in others if not same(other, value)]


def same(one, other):
    """Whether two values are equal with their kinds, at every depth, where Python tells True from 1."""
    if type(one) is not type(other):
        return False
    if isinstance(one, (tuple, list)):
        return len(one) == len(other) and all(same(a, b) for a, b in zip(one, other))
    return one == other


def shown(value):
    """The value as text; Python refuses to print integers of thousands of digits."""
    try:
        return repr(value)
    except ValueError:
        return "a value that is too long to show"


class ExactTest(unittest.TestCase):
    """Tests that tell True from 1, which assertEqual does not."""

    def check(self, found, told):
        if not same(found, told):
            self.fail(f"found {shown(found)}, but it is {shown(told)}")
