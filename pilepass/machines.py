"""The pile machine and the queue machine: how a program is run on either of them."""

from pilepass.errors import Left, Short
from pilepass.webs import passed_worths, takers_of, worth_of


class Pile:
    """The cells of the pile machine: takes are told from the top, and cells are put on the top."""

    def __init__(self):
        self.cells = []

    def take(self, takes):
        """Take so many cells off the top; the list of what was in those at these depths, None if there are fewer."""
        if len(self.cells) < len(takes):
            return None
        found = [self.cells[-1 - depth] for depth in takes]
        self.cells = self.cells[:len(self.cells) - len(takes)]
        return found

    def put(self, worth, copies):
        """Put so many cells with this worth there."""
        self.cells.extend([worth] * copies)


class Line:
    """The cells of the queue machine: takes are told from the front, and cells are put at the end."""

    def __init__(self):
        self.cells = []

    def take(self, takes):
        """Take so many cells off the front; the list of what was in those at these places, None if there are fewer."""
        if len(self.cells) < len(takes):
            return None
        found = [self.cells[place] for place in takes]
        self.cells = self.cells[len(takes):]
        return found

    def put(self, worth, copies):
        """Put so many cells with this worth there."""
        self.cells.extend([worth] * copies)


def run_on(store, web, value, worths):
    """The tuple of the results of a program on a machine with this store, a Pile or a Line without cells."""
    passed = passed_worths(web, worths)
    found = {}
    for index, (step, takes, copies) in enumerate(value):
        taken = store.take(takes)
        if taken is None:
            raise Short(index)
        kind = web[step][0]
        worth = passed[step] if kind == "in" else worth_of(kind, taken)
        store.put(worth, copies)
        if copies == 0:
            found[step] = worth
    if store.cells:
        raise Left(len(store.cells))
    return tuple([found[step] for step in sorted(found)])


def program_of(web, order, ranks):
    """The program with the steps in this order that takes the cells of the givers in the order of their ranks.

    ranks is the dict from each step to a number: of the givers of a step, that with the least one has the cells
    that come first, on the top or at the front. Of several cells of one giver the first one is for the least place.
    """
    takers = takers_of(web)
    return tuple([
        (step, takes_of([ranks[giver] for giver in web[step][1]]), len(takers[step])) for step in order
    ])


def takes_of(ranks):
    """For each of these ranks of givers its place among them when they are put in order; equal ones stay in order."""
    places = sorted(range(len(ranks)), key=lambda place: ranks[place])
    return tuple([places.index(place) for place in range(len(ranks))])
