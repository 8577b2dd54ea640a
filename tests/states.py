"""What the package tells of the right orders and the queue orders of webs of ten steps, told in another way.

Here all states are gone through to which rows of steps come on the machine, dead ends and all. A state is a pair
(left, cells): the steps that are yet to come, and, for each step that has come, the set of those of its takers that
are among these. It takes milliseconds and more for each web. Nothing here uses the package.
"""

from functools import lru_cache


def taken(cells, step, queue):
    """The cells when a step has taken its own; None if it finds one of them behind or below one for another step."""
    groups = list(cells) if queue else list(reversed(cells))
    while groups and groups[0] == {step}:
        groups.pop(0)
    if groups:
        groups[0] = groups[0] - {step}
    if any(step in group for group in groups):
        return None
    return tuple(groups) if queue else tuple(reversed(groups))


def ways(web, state, queue):
    """The pairs of a step that can be done next and the state behind it, ascending."""
    left, cells = state
    for step in sorted(left):
        if not set(web[step][1]) & left:
            found = taken(cells, step, queue)
            if found is not None:
                takers = frozenset(taker for taker, (_, inputs) in enumerate(web) if step in inputs)
                yield step, (left - {step}, found + ((takers,) if takers else ()))


def count_by_states(web, queue=False):
    """How many right orders there are, or queue orders."""

    @lru_cache(maxsize=None)
    def count(state):
        return 1 if not state[0] else sum(count(behind) for _, behind in ways(web, state, queue))

    return count((frozenset(range(len(web))), ()))


def heights_by_states(web):
    """The least and the greatest height and the first of the lowest right orders; None if there is no right order."""

    def cells_of(state):
        return sum(giver not in state[0] for taker in state[0] for giver in web[taker][1])

    @lru_cache(maxsize=None)
    def told(state):
        if not state[0]:
            return (0, 0)
        found = [(cells_of(behind), told(behind)) for _, behind in ways(web, state, False)]
        found = [(max(cells, least), max(cells, greatest)) for cells, (least, greatest) in filter(all_told, found)]
        return (min(low for low, _ in found), max(high for _, high in found)) if found else None

    def all_told(pair):
        return pair[1] is not None

    state = (frozenset(range(len(web))), ())
    if told(state) is None:
        return None
    least, greatest = told(state)
    order = ()
    while state[0]:
        low = [
            (step, behind) for step, behind in ways(web, state, False)
            if told(behind) is not None and max(cells_of(behind), told(behind)[0]) <= least
        ]
        order, state = order + low[0][:1], low[0][1]
    return (least, greatest, order)
