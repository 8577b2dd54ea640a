"""The pile machine: the programs for it, and what comes of them."""

from pilepass.bounds import MAX_COPIES
from pilepass.machines import Pile, program_of, run_on
from pilepass.webs import has_each_once, is_number, is_step, takers_of


def program(web, order):
    """The plain program with the steps in this right order."""
    # What was put there last lies on top.
    return program_of(web, order, {step: -place for place, step in enumerate(order)})


def program_error(web, value):
    """None for a program, otherwise the first fault as a pair of an index or None and a word."""
    if not isinstance(value, tuple) or len(value) != len(web):
        return (None, "program")
    steps = []
    for index, item in enumerate(value):
        if not is_instruction(web, item):
            return (index, "instruction")
        if item[0] in steps:
            return (index, "twice")
        steps.append(item[0])
    return None


def is_instruction(web, value):
    """Whether a value is an instruction for a step of the web."""
    if not isinstance(value, tuple) or len(value) != 3:
        return False
    step, takes, copies = value
    if not is_step(step, len(web)) or not has_each_once(takes, len(web[step][1])):
        return False
    return is_number(copies) and 0 <= copies <= MAX_COPIES


def run(web, value, worths):
    """The tuple of the results of a program."""
    return run_on(Pile(), web, value, worths)


def is_plain(web, value):
    """Whether a value is a plain program."""
    if program_error(web, value) is not None:
        return False
    takers = takers_of(web)
    pile = Pile()
    for step, takes, copies in value:
        # Each cell has the step that put it there: what is taken has to be of the givers.
        if pile.take(takes) != list(web[step][1]) or copies != len(takers[step]):
            return False
        pile.put(step, copies)
    # No cell is left: as many were put there as there are ties, and as many were taken.
    return True
