"""How many right orders there are, counted by the blocks alone: no order and no state is looked at.

The right orders of one part that begin with a step are told by these rules, for the first step y of the order: each
block with y has it at the head of its row; each other block has the step that is nearest to y at one of the ends of
its row. At each step the blocks whose rows end there lie to its left, those whose rows begin there to its right, on
either side one within the other in any order; but the block towards y lies outermost on its side.
"""

from math import factorial, prod

from pilepass.blocks import blocks, parts, row_of


def formula_count(web):
    """The number of right orders of a web without a bar."""
    counts = [part_count(web, part) for part in parts(web)]
    return prod(counts) * factorial(len(web)) // factorial(len(web) - len(counts) + 1)


def part_count(web, part):
    rows = [row_of(web, block) for block in blocks(web) if block[0] in part]
    return sum(count_from(web, rows, first) for first in part)


def count_from(web, rows, first):
    """How many right orders of the part with these rows begin with this step."""
    found = 1
    towards = {first: None}
    waiting = [first]
    while waiting:
        step = waiting.pop()
        inward = towards[step]
        outward = [row for row in rows if step in row and row != inward]
        ends = [row for row in outward if row[-1] == step]
        begins = [row for row in outward if row[0] == step]
        if len(ends) + len(begins) < len(outward) or inward is None and ends:
            return 0
        found *= factorial(len(ends)) * factorial(len(begins))
        for row in outward:
            towards.update({other: row for other in row if other != step})
            waiting.extend(other for other in row if other != step)
    return found
