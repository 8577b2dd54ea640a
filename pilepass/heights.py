"""Heights: how many cells lie behind the steps of right orders."""

from pilepass.masks import steps_of
from pilepass.pile_states import PileStates
from pilepass.trees import trees
from pilepass.webs import takers_of


def heights(web, order):
    """The tuple of the numbers of cells behind each step of a right order."""
    takers = takers_of(web)
    cells = 0
    found = []
    for step in order:
        cells = cells - len(web[step][1]) + len(takers[step])
        found.append(cells)
    return tuple(found)


def least_height(web):
    """The least height of all right orders; None if there is none."""
    return least_of_trees(trees(web), Cells(web, lowest_pile))


def least_of_trees(found, cells):
    """The least height of all right orders, from the trees of all parts; None if there are none."""
    if not found:
        return None
    # The parts may come one after another.
    return max([min([cells.behind_node(root, root.mask) for root in roots]) for roots in found])


def greatest_height(web):
    """The greatest height of all right orders; None if there is none."""
    found = trees(web)
    if not found:
        return None
    cells = Cells(web, highest_pile)
    # Each part may come where the ones ahead of it have the most cells.
    return sum([max([cells.behind_node(root, root.mask) for root in roots]) for roots in found])


def lowest_order(web):
    """The first right order, ascending, with the least height; None if there is none."""
    states = PileStates(web)
    cells = Cells(web, lowest_pile)
    least = least_of_trees(states.parts, cells)
    if least is None:
        return None
    order = ()
    state = states.first()
    while state[0]:
        step, state = first_low_way(states, state, cells, least)
        order = order + (step,)
    return order


def first_low_way(states, state, cells, least):
    """The first pair of a next step and the state behind it from which the pile need not get higher than this."""
    for step in states.next_steps(state):
        after = states.after(state, step)
        if cells.can_stay_low(states, after, least):
            return (step, after)
    return None


class Cells:
    """How many cells come to lie on the pile, told by the trees of a web.

    left is the mask of the steps that are yet to come; only the heights behind these are looked at. pile tells how
    high the branches on one side of a step get one upon the other: it is lowest_pile, if they come in the best order,
    or highest_pile, if in the worst.
    """

    def __init__(self, web, pile):
        self.inputs = [inputs for _, inputs in web]
        self.pile = pile
        self.takers = takers_of(web)
        self.known_counts = {}
        self.known_heights = {}

    def ahead_of_node(self, node, left):
        """How high the branches ahead of a step get that is yet to come, above what lies there without the node."""
        pile = self.pile
        base = sum([self.at_end(branch) for branch in node.ahead if not branch.mask & left])
        high = base
        for branch in begun(node.ahead, left):
            high = base + self.branch_height(branch, left)
            base = base + self.at_end(branch)
        return max(high, base + pile([(self.whole_height(branch), self.at_end(branch))
                                      for branch in whole(node.ahead, left)]))

    def behind_node(self, node, left):
        """How high a step and the branches behind it get, above what lies there without the node."""
        pile = self.pile
        pairs = [(self.whole_height(branch), self.at_head(branch)) for branch in whole(node.behind, left)]
        base = sum([stay for _, stay in pairs])
        highs = [base + self.branch_height(branch, left) for branch in begun(node.behind, left)]
        return max([base, pile(pairs)] + highs)

    def at_end(self, branch):
        """How many cells of a branch ahead of a step wait for the step."""
        return self.counts(branch.row)[-2]

    def at_head(self, branch):
        """How many cells a step has put there for a branch behind it."""
        return self.counts(branch.row)[1]

    def counts(self, row):
        """How many cells lie there for the ties of a row, ahead of each of its steps and behind them all."""
        if row not in self.known_counts:
            cells = [0]
            for step in row:
                taken = [giver for giver in self.inputs[step] if giver in row]
                given = [taker for taker in self.takers[step] if taker in row]
                cells.append(cells[-1] - len(taken) + len(given))
            self.known_counts[row] = cells
        return self.known_counts[row]

    def whole_height(self, branch):
        """How high a branch gets of which no step has come."""
        if branch not in self.known_heights:
            self.known_heights[branch] = self.branch_height(branch, branch.mask)
        return self.known_heights[branch]

    def branch_height(self, branch, left):
        """How high a branch gets above what lies there without it."""
        counts = self.counts(branch.row)
        first = branch.row.index(branch.nodes[0].step)
        high = 0
        for place, node in enumerate(branch.nodes, start=first):
            if left & 1 << node.step:
                high = max(high, counts[place] + self.ahead_of_node(node, left))
            if left & node.mask:
                high = max(high, counts[place + 1] + self.behind_node(node, left))
        return high

    def can_stay_low(self, states, state, least):
        """Whether the pile need not get higher than this from the state on; least is that of the web, or more."""
        left, opened = state
        if not opened:
            return True
        # What lies under the part that was begun last stays there until that part is at its end.
        part = states.roots[opened[-1]]
        under = self.waiting(left & ~part.mask, left)
        top = max(self.waiting(left & part.mask, left), self.behind_node(part, left))
        return under + top <= least

    def waiting(self, mask, left):
        """How many cells lie there for the steps of a mask, which are yet to come."""
        givers = [giver for taker in steps_of(mask) for giver in self.inputs[taker]]
        return len([giver for giver in givers if not left & 1 << giver])


def begun(branches, left):
    """Those of the branches of which some steps have come, and some are yet to come; there is one at most."""
    return [branch for branch in branches if branch.is_begun(left)]


def whole(branches, left):
    """Those of the branches whose steps are all yet to come."""
    return [branch for branch in branches if branch.mask & left == branch.mask]


def lowest_pile(pairs):
    """How high branches get at least, from the pairs of the height of each and of the cells that it leaves there."""
    # The one that gets highest above what it leaves there lies lowest.
    high = base = 0
    for top, stay in sorted(pairs, key=lambda pair: pair[1] - pair[0]):
        high = max(high, base + top)
        base = base + stay
    return high


def highest_pile(pairs):
    """How high branches get at most, from the same pairs."""
    base = sum([stay for _, stay in pairs])
    return max([0] + [base - stay + top for top, stay in pairs])
