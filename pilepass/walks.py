"""Walks: all rows of steps with which one can go on from a state, where a state tells what is yet to come.

A state is a tuple that begins with the mask of the steps that are yet to come. What is called states here is an
object with a method first, the state before any step, and a method ways: for a state the list of the pairs of a step
that can be done next and the state behind it, ascending, without those from which one comes to no end.
"""

# So many steps from the end all rows are kept, so that they are told sooner when their state is come to again.
KEPT_STEPS = 5


def all_rows(states, many):
    """Yield all rows of so many steps from the first state on, ascending, each as soon as it is found."""
    known = {}
    waiting = [((), states.first())]
    while waiting:
        row, state = waiting.pop()
        if many - len(row) <= KEPT_STEPS:
            for tail in tails(states, state, known):
                yield row + tail
        else:
            # What is put there last is gone on with first: that has to be the least step.
            for step, behind in reversed(list(states.ways(state))):
                waiting.append((row + (step,), behind))


def tails(states, state, known):
    """Yield all rows of steps from a state on, ascending; known keeps those of the states that were gone through."""
    if state in known:
        yield from known[state]
    elif not state[0]:
        yield ()
    else:
        found = []
        for step, behind in states.ways(state):
            for tail in tails(states, behind, known):
                found.append((step,) + tail)
                yield found[-1]
        known[state] = found
