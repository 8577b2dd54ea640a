"""The states between the steps of queue orders."""

from pilepass.masks import input_masks, mask_of, steps_of, taker_masks


class QueueStates:
    """The states that queue orders come to, and the ways from one to the next.

    A state is a pair (left, queue). left is the mask of the steps that are yet to come. queue has, for each step
    that has come and has takers among these, the mask of these takers, in the order in which the steps came. What
    can still come depends on nothing else.

    Two steps are twins if they have the same givers and the same takers: these may change places in a queue order.
    twins has for each step the mask of its lesser twins; tied is the mask of the steps that have a tie.
    """

    def __init__(self, web):
        self.many = len(web)
        self.inputs = input_masks(web)
        self.takers = taker_masks(web)
        self.twins = [self.lesser_twins(step) for step in range(self.many)]
        self.tied = mask_of([step for step in range(self.many) if self.inputs[step] or self.takers[step]])
        self.finishing = {}
        self.known_ways = {}

    def lesser_twins(self, step):
        """The mask of the lesser twins of a step."""
        return mask_of([other for other in range(step)
                        if self.inputs[other] == self.inputs[step] and self.takers[other] == self.takers[step]])

    def first(self):
        """The state before any step."""
        return ((1 << self.many) - 1, ())

    def after(self, state, step):
        """The state behind a step that is yet to come; None if it cannot be done, or leads to no end at once."""
        left, queue = state
        if self.inputs[step] & left:
            return None
        queue = taken_off(queue, 1 << step)
        left = left ^ 1 << step
        takers = self.takers[step]
        if queue is None or not takers:
            return None if queue is None else (left, queue)
        return (left, queue + (takers,)) if self.can_wait(left, queue, takers) else None

    def can_wait(self, left, queue, takers):
        """Whether cells for these takers can be put behind a queue and all be taken some time.

        A taker that has cells there and lacks others gets these at the end of the queue. So what comes behind its
        first cells until then has to be for it alone, and there are never two such takers.
        """
        waiting = 0
        for group in queue:
            waiting = waiting | group
        lacking = self.lacking(left, waiting)
        return takers == lacking if lacking else len(steps_of(self.lacking(left, takers))) <= 1

    def lacking(self, left, takers):
        """The mask of those of these takers that take from a step that is yet to come."""
        return mask_of([taker for taker in steps_of(takers) if self.inputs[taker] & left])

    def least_twins(self, left):
        """The steps of a mask of which no lesser twin is in it."""
        return [step for step in steps_of(left) if not self.twins[step] & left]

    def can_finish(self, state):
        """Whether a queue order goes on from this state."""
        left, queue = state
        # Steps without a tie can be done at any time.
        state = (left & self.tied, queue)
        if state not in self.finishing:
            self.finishing[state] = self.finds_end(state)
        return self.finishing[state]

    def finds_end(self, state):
        """What can_finish tells, worked out; it stops at the first way that serves."""
        for step in self.least_twins(state[0]):
            after = self.after(state, step)
            if after is not None and self.can_finish(after):
                return True
        return not state[0]

    def ways(self, state):
        """The pairs of a step with which a queue order goes on and the state behind it, ascending."""
        if state not in self.known_ways:
            pairs = [(step, self.after(state, step)) for step in steps_of(state[0])]
            self.known_ways[state] = [pair for pair in pairs if pair[1] is not None and self.can_finish(pair[1])]
        return self.known_ways[state]


def taken_off(queue, bit):
    """The queue when the step with this bit has taken its cells; None if any of those lies behind one for another."""
    at = 0
    while at < len(queue) and queue[at] == bit:
        at += 1
    rest = queue[at:]
    # The cells of one giver lie there in any order, so that this step may be served first.
    if rest and rest[0] & bit:
        rest = (rest[0] ^ bit,) + rest[1:]
    return None if any([group & bit for group in rest]) else rest
