"""Parts and blocks: which steps of a web hang together, and how closely."""

from pilepass.webs import givers_first


def parts(web):
    """The ascending tuple of all parts."""
    near = near_steps(web)
    found = []
    seen = []
    for step in range(len(web)):
        if step not in seen:
            part = reached(near, step, [])
            found.append(tuple(sorted(part)))
            seen.extend(part)
    return tuple(found)


def near_steps(web):
    """For each step the list of the steps that it is tied to, whichever way the ties go."""
    near = [[] for _ in web]
    for taker, (_, inputs) in enumerate(web):
        for giver in inputs:
            if giver not in near[taker]:
                near[taker].append(giver)
                near[giver].append(taker)
    return near


def reached(near, start, barred):
    """The list of the steps that a row of ties, whichever way they go, joins to one, through no barred step."""
    found = [start]
    waiting = [start]
    while waiting:
        step = waiting.pop()
        fresh = [other for other in near[step] if other not in found and other not in barred]
        found.extend(fresh)
        waiting.extend(fresh)
    return found


def blocks(web):
    """The ascending tuple of all blocks."""
    search = Search(web)
    for step in range(len(web)):
        if step not in search.ranks:
            search.visit(step, None)
    return tuple(sorted(search.found))


class Search:
    """A walk along the ties, whichever way they go, that finds each block when it leaves it for good.

    ranks has the number 0 for the step that was come to first, 1 for the next one, and so on. lows has for each of
    these steps the least rank of itself and of the steps that it, or one that was come to through it, is tied to
    (but for the tie by which one came). path has the steps whose block with the step ahead is not yet found.
    """

    def __init__(self, web):
        self.near = near_steps(web)
        self.ranks = {}
        self.lows = {}
        self.path = []
        self.found = []

    def visit(self, step, before):
        """Come to a step from the one before, and go on from it as long as there is a step to come to."""
        rank = len(self.ranks)
        self.ranks[step] = self.lows[step] = rank
        self.path.append(step)
        for other in self.near[step]:
            if other not in self.ranks:
                self.visit(other, step)
                # No row of ties leads from there past this step: with it, what is left of the path is a block.
                if self.lows[other] >= rank:
                    self.found.append(tuple(sorted((step, *self.path_from(other)))))
                self.lows[step] = min(self.lows[step], self.lows[other])
            elif other != before:
                self.lows[step] = min(self.lows[step], self.ranks[other])

    def path_from(self, step):
        """Take this step and those behind it off the path; the list of them."""
        at = self.path.index(step)
        found = self.path[at:]
        self.path = self.path[:at]
        return found


def shared_steps(web):
    """The ascending tuple of the steps that are in more than one block."""
    found = blocks(web)
    return tuple([step for step in range(len(web)) if len([1 for block in found if step in block]) > 1])


def row_of(web, block):
    """The steps of a block so that each one leads to all that stand behind it; None if they do not stand so."""
    return row_among(web, givers_first(web), block)


def row_among(web, steps, block):
    """The same, from a row of all steps in which each stands behind its inputs."""
    row = tuple([step for step in steps if step in block])
    # A row of ties between two steps of a block does not leave it, and nothing of it stands between these two.
    for one, other in zip(row, row[1:]):
        if one not in web[other][1]:
            return None
    return row
