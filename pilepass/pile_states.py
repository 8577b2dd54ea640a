"""The states between the steps of right orders, told by the trees of a web."""

from pilepass.trees import trees


class PileStates:
    """The states that right orders come to, and the ways from one to the next; none of them is a dead end.

    A state is a pair (left, opened): left is the mask of the steps that are yet to come, and opened has the first
    steps of the parts of which some steps have come and some have not, in order. Of these only the last one can be
    gone on with. Any part can be begun at any time, with a step that may come first there.
    """

    def __init__(self, web):
        self.many = len(web)
        self.parts = trees(web)
        self.roots = {root.step: root for roots in self.parts for root in roots}
        self.known_ways = {}

    def has_order(self):
        """Whether there is a right order at all."""
        return len(self.parts) > 0

    def first(self):
        """The state before any step."""
        return ((1 << self.many) - 1, ())

    def next_steps(self, state):
        """The steps that can be done next, ascending."""
        left, opened = state
        found = [step for step in self.roots if self.is_whole(step, left)]
        if opened:
            found.extend(self.roots[opened[-1]].next_steps(left))
        return sorted(found)

    def is_whole(self, step, left):
        """Whether this is the first step of a tree whose steps are all yet to come."""
        return step in self.roots and self.roots[step].mask & left == self.roots[step].mask

    def after(self, state, step):
        """The state behind a step that can be done next."""
        left, opened = state
        if self.is_whole(step, left):
            opened = opened + (step,)
        left = left ^ 1 << step
        if not self.roots[opened[-1]].mask & left:
            opened = opened[:-1]
        return (left, opened)

    def ways(self, state):
        """The pairs of a step that can be done next and the state behind it, ascending."""
        if state not in self.known_ways:
            self.known_ways[state] = [(step, self.after(state, step)) for step in self.next_steps(state)]
        return self.known_ways[state]
