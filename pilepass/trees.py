"""Trees: how the right orders of a part are put together from the rows of its blocks.

A right order of a part goes along the row of each block. Seen from its first step, each other block is reached by
one of its steps, its door, which stands at the head or at the end of the row: the other steps of the block stand
behind the door or ahead of it. What hangs at one step on one side stands there branch by branch, in any order, so
that no tie crosses another one. So a step that may come first makes a tree of the part, and each right order that
begins with it says in which order the branches come.
"""

from math import factorial

from pilepass.blocks import blocks, parts, row_among
from pilepass.masks import mask_of, taker_masks
from pilepass.webs import givers_first


class Node:
    """A step of a tree with its branches: those that come ahead of the step, and those that come behind it.

    mask is that of all steps of the node.
    """

    def __init__(self, step, ahead, behind):
        self.step = step
        self.ahead = ahead
        self.behind = behind
        self.mask = 1 << step
        for branch in ahead + behind:
            self.mask = self.mask | branch.mask

    def next_steps(self, left):
        """The steps that may be done next, where left is the mask of those that are yet to come, one of them here."""
        if not left & 1 << self.step:
            return next_of_branches(self.behind, left)
        return next_of_branches(self.ahead, left) or [self.step]

    def order_count(self):
        """How many orders of the steps of the node there are."""
        many = factorial(len(self.ahead)) * factorial(len(self.behind))
        for branch in self.ahead + self.behind:
            for node in branch.nodes:
                many = many * node.order_count()
        return many


class Branch:
    """The nodes of the steps of a row but for its door, in order; mask is that of all their steps."""

    def __init__(self, row, nodes):
        self.row = row
        self.nodes = nodes
        self.mask = 0
        for node in nodes:
            self.mask = self.mask | node.mask

    def is_begun(self, left):
        """Whether some of the steps are yet to come, and some are not."""
        return self.mask & left not in (0, self.mask)

    def next_steps(self, left):
        """The steps that may be done next, one of them being yet to come."""
        for node in self.nodes:
            if node.mask & left:
                return node.next_steps(left)
        return []


def next_of_branches(branches, left):
    """The steps that may be done next: a branch that was begun is done to its end, otherwise any one is begun."""
    found = []
    for branch in branches:
        if branch.is_begun(left):
            return branch.next_steps(left)
        if branch.mask & left:
            found.extend(branch.next_steps(left))
    return found


def trees(web):
    """For each part the list of its trees, as their first nodes; the empty list if the web has no right order."""
    rows = rows_of_blocks(web)
    if rows is None:
        return []
    grower = Grower(rows)
    found = []
    for part in parts(web):
        roots = [node for node in [grower.root(step) for step in part] if node is not None]
        if not roots:
            return []
        found.append(roots)
    return found


def rows_of_blocks(web):
    """The rows of all blocks; None if one has none, or if two ties of one cross in it."""
    steps = givers_first(web)
    takers = taker_masks(web)
    rows = []
    for block in blocks(web):
        row = row_among(web, steps, block)
        if row is None or has_crossing(row, takers):
            return None
        rows.append(row)
    return rows


def has_crossing(row, takers):
    """Whether two ties between the steps of a row cross in it, where each stands behind its inputs."""
    among = mask_of(row)
    pile = []
    for step in row:
        bit = 1 << step
        while pile and pile[-1] == bit:
            pile.pop()
        if pile and pile[-1] & bit:
            pile[-1] = pile[-1] ^ bit
        if any([group & bit for group in pile]):
            return True
        if takers[step] & among:
            pile.append(takers[step] & among)
    return False


class Grower:
    """Makes the nodes of all trees from the rows of the blocks; what two trees have alike is made once."""

    def __init__(self, rows):
        self.rows = rows
        self.known = {}

    def root(self, step):
        """The first node of the tree in which this step comes first; None if no right order begins with it."""
        if any([step in row and step != row[0] for row in self.rows]):
            return None
        return self.node(step, None)

    def node(self, step, inward):
        """The node of a step that is reached along the row inward; None if a row would be reached in its middle."""
        ahead = []
        behind = []
        for row in self.rows:
            if step in row and row != inward:
                branch = self.branch(row, step)
                if branch is None:
                    return None
                side = behind if step == row[0] else ahead
                side.append(branch)
        return Node(step, ahead, behind)

    def branch(self, row, door):
        """The branch of a row that is reached by this door; None if it cannot be."""
        key = (row, door)
        if key not in self.known:
            self.known[key] = self.new_branch(row, door)
        return self.known[key]

    def new_branch(self, row, door):
        """What branch tells, worked out."""
        if door not in (row[0], row[-1]):
            return None
        nodes = [self.node(step, row) for step in row if step != door]
        return None if None in nodes else Branch(row, nodes)
