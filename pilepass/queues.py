"""The queue machine: its orders, the programs for it, and what comes of them."""

from pilepass.machines import Line, program_of, run_on
from pilepass.orders import places, row_error
from pilepass.queue_counts import QueueCounts
from pilepass.queue_states import QueueStates
from pilepass.walks import all_rows
from pilepass.webs import ties


def queue_error(web, value):
    """None for a queue order, otherwise the first fault as a tuple of a word and the ties that show it."""
    fault = row_error(web, value)
    if fault is not None:
        return fault
    found = first_nesting(value, ties(web))
    return None if found is None else ("nest", *found)


def first_nesting(row, among):
    """The least pair of these ascending ties of which the first one nests the other one in a row."""
    at = places(row)
    for tie in among:
        for another in among:
            # The other one may be late in no row that is looked at, so that all four steps are unlike.
            if at[tie[0]] < at[another[0]] and at[another[1]] < at[tie[1]]:
                return (tie, another)
    return None


def queue_order_of(web):
    """The first queue order, ascending; None if there is none."""
    for order in queue_orders(web):
        return order
    return None


def queue_orders(web):
    """Yield all queue orders, ascending."""
    states = QueueStates(web)
    many = len(web)
    yield from all_rows(states, many)


def queue_count(web):
    """How many queue orders there are."""
    return QueueCounts(web).order_count()


def queue_program(web, order):
    """The program for the queue machine with the steps in this queue order."""
    # What was put there first lies at the front.
    return program_of(web, order, places(order))


def run_queue(web, value, worths):
    """The tuple of the results of a program on the queue machine."""
    return run_on(Line(), web, value, worths)
