"""Right orders: the first one, all of them, how they begin, and how many they are."""

from math import perm

from pilepass.masks import taker_masks
from pilepass.pile_states import PileStates
from pilepass.trees import has_crossing, trees
from pilepass.walks import all_rows
from pilepass.webs import has_each_once, is_step, ties


def order_error(web, value):
    """None for a right order, otherwise the first fault as a tuple of a word and the ties that show it."""
    fault = row_error(web, value)
    if fault is not None:
        return fault
    if not has_crossing(value, taker_masks(web)):
        return None
    return ("cross", *first_crossing(value, ties(web)))


def row_error(web, value):
    """None if a value is a tuple of all steps in which each stands behind its inputs, otherwise the first fault."""
    if not has_each_once(value, len(web)):
        return ("order",)
    at = places(value)
    for tie in ties(web):
        if at[tie[0]] > at[tie[1]]:
            return ("late", tie)
    return None


def places(row):
    """The dict from each step of a row to its place there."""
    return {step: place for place, step in enumerate(row)}


def first_crossing(row, among):
    """The least pair of these ascending ties that cross in a row; the first one of them has the first giver."""
    at = places(row)
    for tie in among:
        for another in among:
            if crosses(at, tie, another):
                return (tie, another)
    return None


def crosses(at, tie, another):
    """Whether two ties cross in the row with these places, and the first one has the first giver."""
    return at[tie[0]] < at[another[0]] < at[tie[1]] < at[another[1]]


def order_of(web):
    """The first right order, ascending; None if there is none."""
    states = PileStates(web)
    if not states.has_order():
        return None
    order = ()
    state = states.first()
    while state[0]:
        step = states.next_steps(state)[0]
        order = order + (step,)
        state = states.after(state, step)
    return order


def orders(web):
    """Yield all right orders, ascending."""
    states = PileStates(web)
    many = len(web)
    yield from all_rows(states, many)


def can_begin(web, value):
    """Whether a value is a tuple of steps with which a right order begins."""
    if not isinstance(value, tuple) or len(value) > len(web):
        return False
    states = PileStates(web)
    state = states.first()
    for step in value:
        # Only a step number is looked up: True would be found in the place of 1.
        if not is_step(step, len(web)) or step not in states.next_steps(state):
            return False
        state = states.after(state, step)
    return states.has_order()


def order_count(web):
    """How many right orders there are."""
    found = trees(web)
    if not found:
        return 0
    # So many ways there are to let orders of the parts go into one another.
    many = perm(len(web), len(found) - 1)
    for roots in found:
        many = many * sum([root.order_count() for root in roots])
    return many
