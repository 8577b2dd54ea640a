"""Right orders: the first one, all of them, how they begin, and how many they are."""

from pilepass.states import States
from pilepass.webs import has_each_once, is_step, ties


def order_error(web, value):
    """None for a right order, otherwise the first fault as a tuple of a word and the ties that show it."""
    if not has_each_once(value, len(web)):
        return ("order",)
    at = places(value)
    for tie in ties(web):
        if at[tie[0]] > at[tie[1]]:
            return ("late", tie)
    found = crossings(value, ties(web))
    if found:
        return ("cross", *found[0])
    return None


def places(row):
    """The dict from each step of a row to its place there."""
    return {step: place for place, step in enumerate(row)}


def crossings(row, among):
    """The ascending pairs of these ascending ties that cross in a row; the first tie of a pair has the first giver."""
    at = places(row)
    return [(tie, another) for tie in among for another in among if crosses(at, tie, another)]


def crosses(at, tie, another):
    """Whether two ties cross in the row with these places, and the first one has the first giver."""
    return at[tie[0]] < at[another[0]] < at[tie[1]] < at[another[1]]


def order_of(web):
    """The first right order, ascending; None if there is none."""
    for order in orders(web):
        return order
    return None


def orders(web):
    """Yield all right orders, ascending."""
    states = States(web)
    waiting = [((), states.first())]
    while waiting:
        order, state = waiting.pop()
        if len(order) == len(web):
            yield order
        # What is put there last is gone on with first: that has to be the least step.
        for step, behind in reversed(list(states.ways(state))):
            waiting.append((order + (step,), behind))


def can_begin(web, value):
    """Whether a value is a tuple of steps with which a right order begins."""
    if not isinstance(value, tuple):
        return False
    states = States(web)
    state = states.first()
    for step in value:
        # Only a step number is looked up: True would be found in the place of 1.
        state = states.next_state(state, step) if is_step(step, len(web)) else None
        if state is None:
            return False
    return states.can_finish(state)


def order_count(web):
    """How many right orders there are."""
    states = States(web)
    return many_from(states, states.first(), {})


def many_from(states, state, known):
    """In how many ways a right order goes on from this state; known keeps what was told."""
    if not state[0]:
        return 1
    if state not in known:
        known[state] = sum([many_from(states, behind, known) for _, behind in states.ways(state)])
    return known[state]
