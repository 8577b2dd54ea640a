"""Webs: what is one, and what its steps are to each other."""

from pilepass.bounds import MAX_STEPS
from pilepass.errors import BadOrder, TooMany

MAX_INTEGER = 99
INPUTS = {"in": 0, "neg": 1, "+": 2, "-": 2, "*": 2, "pick": 3}


def web_error(value):
    """None for a web, otherwise the first fault as a pair of an index or None and a word."""
    if not isinstance(value, tuple) or not 1 <= len(value) <= MAX_STEPS:
        return (None, "web")
    for index, step in enumerate(value):
        fault = step_fault(step, len(value))
        if fault is not None:
            return (index, fault)
    if len(givers_first(value)) < len(value):
        return (None, "ring")
    return None


def step_fault(step, many):
    """The word for the first fault of a step in a web of so many steps, or None."""
    if not isinstance(step, tuple) or len(step) != 2 or not isinstance(step[1], tuple):
        return "step"
    kind, inputs = step
    needed = inputs_of_kind(kind)
    if needed is None:
        return "kind"
    if len(inputs) != needed:
        return "many"
    if not all([is_step(giver, many) for giver in inputs]):
        return "input"
    return None


def inputs_of_kind(value):
    """How many inputs a step of this kind has; None if the value is no kind."""
    if isinstance(value, str):
        return INPUTS.get(value)
    if is_number(value) and -MAX_INTEGER <= value <= MAX_INTEGER:
        return 0
    return None


def is_number(value):
    """Whether a value is an integer; Python counts True and False among them, the document does not."""
    return isinstance(value, int) and not isinstance(value, bool)


def is_exact(value):
    """Whether True and False, which are equal to 1 and 0, are nowhere in a value of tuples, integers and strings."""
    if isinstance(value, tuple):
        return all([is_exact(item) for item in value])
    return not isinstance(value, bool)


def is_step(value, many):
    """Whether a value is a step number of a web of so many steps."""
    return is_number(value) and 0 <= value < many


def has_each_once(value, many):
    """Whether a value is a tuple that has each step number of a web of so many steps just once."""
    if not isinstance(value, tuple) or len(value) != many:
        return False
    # Only step numbers are sorted: values of unlike kinds could not be compared.
    if not all([is_step(item, many) for item in value]):
        return False
    return sorted(value) == list(range(many))


def givers_first(web):
    """The steps in a row in which each stands behind its inputs, without those on or behind a ring."""
    missing = [len(inputs) for _, inputs in web]
    takers = takers_of(web)
    row = [step for step in range(len(web)) if not missing[step]]
    at = 0
    while at < len(row):
        giver = row[at]
        for taker in takers[giver]:
            missing[taker] -= 1
            if not missing[taker]:
                row.append(taker)
        at += 1
    return row


def takers_of(web):
    """For each step the ascending list of the steps that take from it, each as often as it does."""
    takers = [[] for _ in web]
    for taker, (_, inputs) in enumerate(web):
        for giver in inputs:
            takers[giver].append(taker)
    return takers


def ties(web):
    """The ascending tuple of all ties, each one as (giver, taker, place)."""
    found = []
    for taker, (_, inputs) in enumerate(web):
        found.extend([(giver, taker, place) for place, giver in enumerate(inputs)])
    return tuple(sorted(found))


def results(web):
    """The ascending tuple of the steps that are no giver of a tie."""
    takers = takers_of(web)
    return tuple([step for step in range(len(web)) if not takers[step]])


def leads(web, one, other):
    """Whether a row of ties goes from step one to step other."""
    return one in steps_ahead(web, other)


def steps_ahead(web, step):
    """The steps that lead to this one."""
    found = []
    waiting = list(web[step][1])
    while waiting:
        giver = waiting.pop()
        if giver not in found:
            found.append(giver)
            waiting.extend(web[giver][1])
    return found


def meaning(web, worths):
    """The tuple of the worths of the results; worths are those of the "in" steps, in order."""
    passed = passed_worths(web, worths)
    found = {}
    for step in givers_first(web):
        kind, inputs = web[step]
        if kind == "in":
            found[step] = passed[step]
        else:
            found[step] = worth_of(kind, [found[giver] for giver in inputs])
    return tuple([found[step] for step in results(web)])


def passed_worths(web, worths):
    """The dict from each "in" step to the worth that is passed for it."""
    takers = [step for step, (kind, _) in enumerate(web) if kind == "in"]
    return dict(zip(takers, worths))


def worth_of(kind, taken):
    """The worth of a step of this kind, other than "in", from the worths of its inputs."""
    if kind == "neg":
        return -taken[0]
    if kind == "+":
        return taken[0] + taken[1]
    if kind == "-":
        return taken[0] - taken[1]
    if kind == "*":
        return taken[0] * taken[1]
    if kind == "pick":
        return taken[1] if taken[0] > 0 else taken[2]
    return kind


def beside(web, other):
    """The web with the steps of web and behind them those of other."""
    first = len(web)
    if first + len(other) > MAX_STEPS:
        raise TooMany()
    numbers = [first + step for step in range(len(other))]
    return web + tuple([with_inputs(step, numbers) for step in other])


def renumbered(web, value):
    """The web in which the step value[i] of this one has the number i."""
    if not has_each_once(value, len(web)):
        raise BadOrder()
    numbers = {old: new for new, old in enumerate(value)}
    return tuple([with_inputs(web[old], numbers) for old in value])


def with_inputs(step, numbers):
    """The same step, but each input has the number that stands for it in numbers."""
    kind, inputs = step
    return (kind, tuple([numbers[giver] for giver in inputs]))
