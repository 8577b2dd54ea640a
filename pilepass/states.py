"""The states between the steps of a right order: what is yet to come, and what lies on the pile for it."""


class States:
    """The states that a web can come to, and the ways from one to the next.

    A state is a pair (left, pile). left is the ascending tuple of the steps that are yet to come. pile has, for
    each step that was done and still has takers among these, the ascending tuple of these takers; that of the
    step that was done last stands last, on top. What can still come depends on nothing else, so that many rows of
    steps come to one state, and what is told of a state is worked out once for all of them.
    """

    def __init__(self, web):
        self.inputs = [inputs for _, inputs in web]
        self.takers = [takers_of(web, step) for step in range(len(web))]
        self.finishing = {}
        self.known_ways = {}

    def first(self):
        """The state before any step."""
        return (tuple(range(len(self.inputs))), ())

    def next_state(self, state, step):
        """The state when this step is done next; None if it cannot be done, or a tie would cross another one."""
        left, pile = state
        if step not in left or any([giver in left for giver in self.inputs[step]]):
            return None
        pile = taken_off(pile, step)
        if pile is None:
            return None
        return (without(left, step), with_group(pile, self.takers[step]))

    def can_finish(self, state):
        """Whether a right order goes on from this state."""
        if state not in self.finishing:
            self.finishing[state] = self.finds_end(state)
        return self.finishing[state]

    def finds_end(self, state):
        """What can_finish tells, worked out; it stops at the first way that serves."""
        left, _ = state
        for step in left:
            behind = self.next_state(state, step)
            if behind is not None and self.can_finish(behind):
                return True
        return not left

    def ways(self, state):
        """The pairs of a step and the state behind it, for the steps with which a right order goes on, ascending."""
        if state not in self.known_ways:
            pairs = [(step, self.next_state(state, step)) for step in state[0]]
            self.known_ways[state] = [pair for pair in pairs if pair[1] is not None and self.can_finish(pair[1])]
        return self.known_ways[state]

    def cells(self, state):
        """How many ties go from the steps that were done to those that are yet to come."""
        left, _ = state
        return len([giver for taker in left for giver in self.inputs[taker] if giver not in left])


def takers_of(web, step):
    """The ascending tuple of the steps that take from this one."""
    return tuple([taker for taker, (_, inputs) in enumerate(web) if step in inputs])


def without(steps, step):
    """The tuple without this step."""
    return tuple([other for other in steps if other != step])


def taken_off(pile, step):
    """The pile when a step has taken what lies there for it; None if it would leave something above any of that."""
    for place, takers in enumerate(pile):
        if step in takers:
            if any([above != (step,) for above in pile[place + 1:]]):
                return None
            return with_group(pile[:place], without(takers, step))
    return pile


def with_group(pile, takers):
    """The pile with these takers on top, if there are any."""
    return pile + (takers,) if takers else pile
