"""Heights: how many cells lie behind the steps of right orders."""

from pilepass.states import States
from pilepass.webs import ties


def heights(web, order):
    """The tuple of the numbers of cells behind each step of a right order."""
    at = {step: place for place, step in enumerate(order)}
    spans = [(at[giver], at[taker]) for giver, taker, _ in ties(web)]
    return tuple([len([1 for start, end in spans if start <= place < end]) for place in range(len(order))])


def least_height(web):
    """The least height of all right orders; None if there is none."""
    found = least_and_greatest(web)
    return None if found is None else found[0]


def greatest_height(web):
    """The greatest height of all right orders; None if there is none."""
    found = least_and_greatest(web)
    return None if found is None else found[1]


def least_and_greatest(web):
    """The least and the greatest height of all right orders; None if there is none."""
    states = States(web)
    if not states.can_finish(states.first()):
        return None
    return heights_from(states, states.first(), {})


def heights_from(states, state, known):
    """The least and the greatest height of all ways on from this state, at most; known keeps what was told."""
    if not state[0]:
        return (0, 0)
    if state not in known:
        found = [heights_at(states, behind, known) for _, behind in states.ways(state)]
        known[state] = (min([low for low, _ in found]), max([high for _, high in found]))
    return known[state]


def heights_at(states, state, known):
    """The same, with the cells of this state itself counted in."""
    cells = states.cells(state)
    low, high = heights_from(states, state, known)
    return (max(cells, low), max(cells, high))


def lowest_order(web):
    """The first right order, ascending, with the least height; None if there is none."""
    states = States(web)
    state = states.first()
    if not states.can_finish(state):
        return None
    known = {}
    least = heights_from(states, state, known)[0]
    order = ()
    while state[0]:
        low_ways = [way for way in states.ways(state) if heights_at(states, way[1], known)[0] <= least]
        step, state = low_ways[0]
        order = order + (step,)
    return order
