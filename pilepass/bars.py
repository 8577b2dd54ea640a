"""Bars: what shows that a web has no right order."""

from pilepass.blocks import are_tied, blocks, reached, row_of
from pilepass.orders import crossings
from pilepass.webs import is_number, leads, ties


def bar(web):
    """The first bar; None if there is none."""
    found = bars(web)
    return found[0] if found else None


def bar_holds(web, value):
    """Whether a value is a bar."""
    return value in bars(web) and is_exact(value)


def is_exact(value):
    """Whether True and False are nowhere in a value that is equal to a bar: Python takes them for 1 and 0."""
    if isinstance(value, tuple):
        return all([is_exact(item) for item in value])
    return isinstance(value, str) or is_number(value)


def bars(web):
    """The list of all bars, the first one first."""
    rows = {block: row_of(web, block) for block in blocks(web)}
    found = []
    for block in rows:
        found.extend(bars_of(web, block, rows))
    return found


def bars_of(web, block, rows):
    """The bars that have this block first, the first one first; rows is the dict from each block to its row."""
    row = rows[block]
    if row is None:
        return apart_bars(web, block)
    return open_bars(web, block, row) + cross_bars(web, block, row) + around_bars(web, block, rows)


def apart_bars(web, block):
    """The bars of a block by two steps of which neither leads to the other one."""
    pairs = [(one, other) for one in block for other in block if one < other]
    return [("apart", block, one, other) for one, other in pairs
            if not leads(web, one, other) and not leads(web, other, one)]


def open_bars(web, block, row):
    """The bar of a block by its row that no tie closes, if it is one; that of two steps is closed by their tie."""
    return [] if row[0] in web[row[-1]][1] else [("open", block)]


def cross_bars(web, block, row):
    """The bars of a block by two ties that cross in its row."""
    inner = [tie for tie in ties(web) if tie[0] in block and tie[1] in block]
    return [("cross", block, tie, another) for tie, another in crossings(row, inner)]


def around_bars(web, block, rows):
    """The bars of a block by greater ones, each of which lies around the other one."""
    others = [another for another in rows if block < another and rows[another] is not None]
    return [("around", block, another) for another in others
            if lies_around(web, rows[block], another) and lies_around(web, rows[another], block)]


def lies_around(web, row, another):
    """Whether the block with this row lies around another one."""
    return any([step in row[1:-1] for step in doors(web, row, another)])


def doors(web, row, another):
    """The list of the door of the block with this row to another one; empty if that one is in another part."""
    outside = [step for step in range(len(web)) if step not in row]
    start = [step for step in another if step in outside][0]
    far = reached(web, start, outside)
    return [step for step in row if any([are_tied(web, step, other) for other in far])]
