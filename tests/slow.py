"""What the package has to tell, worked out slowly and word by word as the document puts it.

Nothing here uses the package, so that a fault of the package cannot hide itself.
"""

from functools import lru_cache
from itertools import combinations, permutations, product


def slow_ties(web):
    return sorted((giver, taker, place) for taker, (_, inputs) in enumerate(web) for place, giver in enumerate(inputs))


@lru_cache(maxsize=None)
def slow_leads(web, one, other):
    """Whether a row of ties goes from one to other."""
    return any(giver == one or slow_leads(web, one, giver) for giver in web[other][1])


def tied(web, one, other):
    return one in web[other][1] or other in web[one][1]


def rows_of_ties(web, start, through):
    """All steps that a row of ties, whichever way these go, leads to from start, through these steps alone."""
    found = {start}
    for _ in web:
        found |= {other for step in found for other in through if tied(web, step, other)}
    return found


def hang_together(web, steps):
    return all(other in rows_of_ties(web, one, steps) for one in steps for other in steps)


def greatest(sets):
    return tuple(sorted(one for one in sets if not any(set(one) < set(other) for other in sets)))


def sets_of_steps(web, least):
    return [steps for many in range(least, len(web) + 1) for steps in combinations(range(len(web)), many)]


@lru_cache(maxsize=None)
def slow_parts(web):
    return greatest([steps for steps in sets_of_steps(web, 1) if hang_together(web, steps)])


@lru_cache(maxsize=None)
def slow_blocks(web):
    return greatest([
        steps for steps in sets_of_steps(web, 2)
        if hang_together(web, steps)
        and all(hang_together(web, [step for step in steps if step != out]) for out in steps)
    ])


def slow_shared_steps(web):
    return tuple(step for step in range(len(web)) if sum(step in block for block in slow_blocks(web)) > 1)


@lru_cache(maxsize=None)
def slow_row_of(web, block):
    for row in permutations(block):
        if all(slow_leads(web, one, other) for one, other in combinations(row, 2)):
            return row
    return None


def slow_crossings(web, row, among=None):
    """The ascending pairs of ties that cross in a row of steps, the one with the first giver first."""
    at = {step: place for place, step in enumerate(row)}
    found = [tie for tie in slow_ties(web) if among is None or tie[0] in among and tie[1] in among]
    return sorted(
        (tie, other) for tie in found for other in found
        if at[tie[0]] < at[other[0]] and at[other[0]] < at[tie[1]] and at[tie[1]] < at[other[1]]
        and len({tie[0], tie[1], other[0], other[1]}) == 4
    )


def slow_order_error(web, order):
    """For a tuple that has each step just once."""
    for tie in slow_ties(web):
        if order.index(tie[0]) > order.index(tie[1]):
            return ("late", tie)
    found = slow_crossings(web, order)
    return ("cross", *found[0]) if found else None


@lru_cache(maxsize=None)
def slow_orders(web):
    """All right orders, ascending, by a look at all rows of the steps."""
    return tuple(order for order in permutations(range(len(web))) if slow_order_error(web, order) is None)


def slow_door(web, block, other):
    """The door of a block to another one; None if they are in two parts."""
    shared = [step for step in block if step in other]
    if shared:
        return shared[0]
    outside = [step for step in range(len(web)) if step not in block]
    found = [step for step in block if any(far in rows_of_ties(web, step, outside) for far in other)]
    assert len(found) <= 1, "the door is the only step of this kind"
    return found[0] if found else None


def slow_lies_around(web, block, other):
    row = slow_row_of(web, block)
    door = slow_door(web, block, other)
    return door is not None and door not in (row[0], row[-1])


def slow_bars_of(web, block):
    """All bars of a block, by their words and ascending."""
    if slow_row_of(web, block) is None:
        return sorted(
            ("apart", block, one, other) for one, other in combinations(block, 2)
            if not slow_leads(web, one, other) and not slow_leads(web, other, one)
        )
    row = slow_row_of(web, block)
    found = []
    if len(block) >= 3 and not any(tie[0] == row[0] and tie[1] == row[-1] for tie in slow_ties(web)):
        found.append(("open", block))
    found += [("cross", block, tie, other) for tie, other in slow_crossings(web, row, block)]
    found += sorted(
        ("around", block, other) for other in slow_blocks(web)
        if block < other and slow_row_of(web, other) is not None
        and slow_lies_around(web, block, other) and slow_lies_around(web, other, block)
    )
    return found


def slow_bars(web):
    """All bars, the first one first."""
    return [found for block in slow_blocks(web) for found in slow_bars_of(web, block)]


def slow_heights(web, order):
    """The numbers of cells behind each step, by a look at what stands at or ahead of it and what behind."""
    found = []
    for place in range(len(order)):
        ahead, behind = order[:place + 1], order[place + 1:]
        found.append(sum(giver in ahead and taker in behind for giver, taker, _ in slow_ties(web)))
    return tuple(found)


def slow_height(web, order):
    return max(slow_heights(web, order))


def slow_queue_error(web, order):
    """For a tuple that has each step just once."""
    for tie in slow_ties(web):
        if order.index(tie[0]) > order.index(tie[1]):
            return ("late", tie)
    at = {step: place for place, step in enumerate(order)}
    found = sorted(
        (tie, other) for tie in slow_ties(web) for other in slow_ties(web)
        if at[tie[0]] < at[other[0]] and at[tie[1]] > at[other[1]]
        and len({tie[0], tie[1], other[0], other[1]}) == 4
    )
    return ("nest", *found[0]) if found else None


@lru_cache(maxsize=None)
def slow_queue_orders(web):
    """All queue orders, ascending, by a look at all rows of the steps."""
    return tuple(order for order in permutations(range(len(web))) if slow_queue_error(web, order) is None)


def slow_worth(kind, taken):
    first = taken[0] if taken else None
    if kind == "neg":
        return 0 - first
    if kind == "+":
        return first + taken[1]
    if kind == "-":
        return first - taken[1]
    if kind == "*":
        return first * taken[1]
    if kind == "pick":
        return taken[1] if first >= 1 else taken[2]
    return kind


def slow_meaning(web, worths):
    """The worths of the results, each one worked out anew from those that it needs."""
    ins = [step for step, (kind, _) in enumerate(web) if kind == "in"]

    def worth(step):
        kind, inputs = web[step]
        return worths[ins.index(step)] if kind == "in" else slow_worth(kind, [worth(giver) for giver in inputs])

    givers = {giver for _, inputs in web for giver in inputs}
    return tuple(worth(step) for step in range(len(web)) if step not in givers)


def slow_machine(web, program, worths, queue=False):
    """What a machine does that tells of each cell whose it is: a pair of what comes of it and what was taken.

    What comes of it is ("short", index), ("left", many) or ("results", worths). What was taken is a list that has
    for each instruction that was done the givers of the cells that it took, by the place of the inputs.
    """
    given = dict(zip([step for step, (kind, _) in enumerate(web) if kind == "in"], worths))
    cells, told, found = [], [], {}
    for index, (step, takes, copies) in enumerate(program):
        if len(cells) < len(takes):
            return (("short", index), told)
        # The cells that are taken, that with the number 0 first.
        taken = [cells.pop(0 if queue else -1) for _ in takes]
        told.append([taken[number][0] for number in takes])
        kind = web[step][0]
        worth = given[step] if kind == "in" else slow_worth(kind, [taken[number][1] for number in takes])
        for _ in range(copies):
            cells.append((step, worth))
        if copies == 0:
            found[step] = worth
    if cells:
        return (("left", len(cells)), told)
    return (("results", tuple(worth for _, worth in sorted(found.items()))), told)


def slow_is_plain(web, program, queue=False):
    """Whether a program takes for each input a cell of its giver, and puts as many there as are taken."""
    result, told = slow_machine(web, program, [0] * len(web), queue)
    return (
        result[0] == "results"
        and all(copies == sum(giver == step for giver, _, _ in slow_ties(web)) for step, _, copies in program)
        and all(told[index] == list(web[step][1]) for index, (step, _, _) in enumerate(program))
    )


def slow_programs(web, orders, queue=False):
    """For each of these rows of the steps all programs with just the right copies, whatever they take."""
    for order in orders:
        copies = [sum(giver == step for giver, _, _ in slow_ties(web)) for step in order]
        choices = [list(permutations(range(len(web[step][1])))) for step in order]
        for takes in product(*choices):
            yield tuple(zip(order, takes, copies))
