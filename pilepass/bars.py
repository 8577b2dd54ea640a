"""Bars: what shows that a web has no right order."""

from pilepass.blocks import blocks, near_steps, reached, row_among, row_of
from pilepass.masks import taker_masks
from pilepass.orders import crosses, first_crossing, places
from pilepass.trees import has_crossing
from pilepass.webs import givers_first, is_exact, leads, ties


def bar(web):
    """The first bar; None if there is none."""
    steps = givers_first(web)
    rows = {block: row_among(web, steps, block) for block in blocks(web)}
    for block in rows:
        found = bar_of(web, block, rows)
        if found is not None:
            return found
    return None


def bar_of(web, block, rows):
    """The first bar that has this block first, or None; rows is the dict from each block to its row."""
    row = rows[block]
    if row is None:
        return apart_bar(web, block)
    if is_open(web, row):
        return ("open", block)
    if has_crossing(row, taker_masks(web)):
        return ("cross", block, *first_crossing(row, ties_among(web, row)))
    return around_bar(web, block, rows)


def apart_bar(web, block):
    """The first bar of a block without a row by two steps of which neither leads to the other one."""
    for one in block:
        for other in block:
            if are_apart(web, one, other):
                return ("apart", block, one, other)
    return None


def are_apart(web, one, other):
    """Whether one step is less than the other one, and neither leads to the other one."""
    return one < other and not leads(web, one, other) and not leads(web, other, one)


def is_open(web, row):
    """Whether no tie goes from the first to the last step of a row; in a row of two steps there is always one."""
    return row[0] not in web[row[-1]][1]


def ties_among(web, row):
    """The ascending list of the ties between the steps of a row."""
    return [tie for tie in ties(web) if tie[0] in row and tie[1] in row]


def around_bar(web, block, rows):
    """The first bar of a block by a greater one, each of which lies around the other one."""
    inner = inner_side(web, rows[block])
    for another in rows:
        # Of a block of the inner side all steps are there, but for one that may be shared.
        if block < another and rows[another] is not None and is_joined(inner, another):
            if is_joined(inner_side(web, rows[another]), block):
                return ("around", block, another)
    return None


def inner_side(web, row):
    """The steps that a row of ties joins to a step in the middle of a row, through steps that are not in the row."""
    near = near_steps(web)
    found = []
    for step in row[1:-1]:
        found.extend([other for other in reached(near, step, row) if other != step])
    return found


def is_joined(inner, block):
    """Whether a block has a step of the inner side of another one, which so lies around it."""
    return any([step in inner for step in block])


def bar_holds(web, value):
    """Whether a value is a bar."""
    if not isinstance(value, tuple) or len(value) < 2 or value[1] not in blocks(web):
        return False
    # What is equal to a bar may still have True or False in it: Python takes them for 1 and 0.
    return is_bar_of(web, row_of(web, value[1]), value) and is_exact(value)


def is_bar_of(web, row, value):
    """Whether a tuple is a bar of the block that it has, with this row; the numbers may be True and False."""
    word, block = value[:2]
    if word == "apart" and len(value) == 4:
        return value[2] in block and value[3] in block and are_apart(web, value[2], value[3])
    if word == "open" and len(value) == 2:
        return row is not None and is_open(web, row)
    if word == "cross" and len(value) == 4:
        return row is not None and is_cross(web, row, value[2], value[3])
    if word == "around" and len(value) == 3:
        return row is not None and is_around(web, block, value[2])
    return False


def is_cross(web, row, tie, another):
    """Whether two values are ties between the steps of a row that cross in it, the first one with the first giver."""
    among = ties_among(web, row)
    return tie in among and another in among and crosses(places(row), tie, another)


def is_around(web, block, value):
    """Whether a value is a greater block than this one with a row, and each lies around the other one."""
    if value not in blocks(web):
        return False
    rows = {one: row_of(web, one) for one in (block, value)}
    return around_bar(web, block, rows) is not None
