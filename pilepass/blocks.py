"""Parts and blocks: which steps of a web hang together, and how closely."""

from pilepass.webs import givers_first, leads


def parts(web):
    """The ascending tuple of all parts."""
    return tuple(pieces(web, tuple(range(len(web)))))


def pieces(web, steps):
    """The greatest sets of these ascending steps that hang together, as ascending tuples, ascending."""
    found = []
    rest = steps
    while rest:
        piece = reached(web, rest[0], rest)
        found.append(piece)
        rest = tuple([step for step in rest if step not in piece])
    return found


def reached(web, start, steps):
    """The ascending tuple of those of these steps that are joined to one of them, through these steps alone."""
    found = []
    waiting = [start]
    while waiting:
        step = waiting.pop()
        if step not in found:
            found.append(step)
            waiting.extend([other for other in steps if are_tied(web, step, other)])
    return tuple(sorted(found))


def are_tied(web, one, other):
    """Whether there is a tie between two steps, whichever way it goes."""
    return one in web[other][1] or other in web[one][1]


def blocks(web):
    """The ascending tuple of all blocks."""
    found = []
    for part in parts(web):
        found.extend(blocks_among(web, part))
    return tuple(sorted(found))


def blocks_among(web, steps):
    """The list of the blocks among these ascending steps, which hang together."""
    if len(steps) < 2:
        return []
    for step in steps:
        found = pieces(web, tuple([other for other in steps if other != step]))
        # Where the others fall apart, no block goes from one piece to another, but each may have this step.
        if len(found) > 1:
            return blocks_of_pieces(web, found, step)
    return [steps]


def blocks_of_pieces(web, found, step):
    """The list of the blocks of the pieces that were found, each together with this step."""
    told = []
    for piece in found:
        told.extend(blocks_among(web, tuple(sorted((*piece, step)))))
    return told


def shared_steps(web):
    """The ascending tuple of the steps that are in more than one block."""
    found = blocks(web)
    return tuple([step for step in range(len(web)) if len([1 for block in found if step in block]) > 1])


def row_of(web, block):
    """The steps of a block so that each one leads to all that stand behind it; None if they do not stand so."""
    row = tuple([step for step in givers_first(web) if step in block])
    for one, other in zip(row, row[1:]):
        if not leads(web, one, other):
            return None
    return row
