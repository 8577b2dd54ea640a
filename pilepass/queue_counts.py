"""How many queue orders a web has."""

from math import factorial, perm

from pilepass.blocks import parts
from pilepass.masks import mask_of, steps_of
from pilepass.queue_states import QueueStates
from pilepass.webs import givers_first


class QueueCounts:
    """Counts the queue orders of a web.

    Only those are gone through in which the steps without a tie come last, twins come in ascending order, and like
    parts begin in ascending order. The others are these with the steps without a tie put anywhere, and with twins
    and like parts exchanged. before has for each tied step the mask of the like part before its own, or 0.
    """

    def __init__(self, web):
        self.states = QueueStates(web)
        self.like = like_parts(web)
        self.before = {}
        for masks in self.like:
            for before, part in zip([0] + masks, masks):
                self.before.update({step: before for step in steps_of(part)})
        self.known = {}

    def order_count(self):
        """How many queue orders there are."""
        states = self.states
        tied = steps_of(states.tied)
        many = perm(states.many, states.many - len(tied))
        for masks in self.like:
            many = many * factorial(len(masks))
        for step in tied:
            # Of the twins up to this one any one can come in its place.
            many = many * (len(steps_of(states.twins[step])) + 1)
        return many * self.count_from((states.tied, ()))

    def count_from(self, state):
        """How many of the orders that are gone through go on from this state."""
        left, _ = state
        if not left:
            return 1
        if state not in self.known:
            steps = [step for step in self.states.least_twins(left) if self.is_in_turn(step, left)]
            found = [self.states.after(state, step) for step in steps]
            self.known[state] = sum([self.count_from(after) for after in found if after is not None])
        return self.known[state]

    def is_in_turn(self, step, left):
        """Whether the like part before the one of this step was begun, if there is one."""
        before = self.before[step]
        return not before or left & before != before


def like_parts(web):
    """The lists of the masks of like parts, those of one step left out."""
    steps = givers_first(web)
    found = {}
    for part in parts(web):
        if len(part) > 1:
            row = [step for step in steps if step in part]
            # Parts with the same inputs by the places in such rows are like but for their numbers.
            shape = tuple([mask_of([row.index(giver) for giver in web[step][1]]) for step in row])
            found.setdefault(shape, []).append(mask_of(part))
    return list(found.values())
