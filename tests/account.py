"""A plain account of what a loom has to tell: webs in a list, worked out by the words of the document.

An edit is a pair of its name and its arguments. What comes of a call is told as a pair: ("version", number), or the
name of an error and its attribute, None if it has none.
"""

from pilepass.errors import (
    BadWeb, Barred, Full, NoOrder, NoStep, NothingToRedo, NothingToUndo, Used,
)
from pilepass.webs import web_error
from tests.slow import slow_bars

ATTRIBUTES = {
    BadWeb: "error", Barred: "bar", Full: None, NoOrder: None, NoStep: "value", NothingToRedo: None,
    NothingToUndo: None, Used: "value",
}


def outcome(call, *args):
    """What comes of a call of an edit, undo or redo of a loom."""
    try:
        return ("version", call(*args))
    except tuple(ATTRIBUTES) as error:
        word = ATTRIBUTES[type(error)]
        return (type(error).__name__, None if word is None else getattr(error, word))


def is_number(value, many):
    """Whether a value is one of the numbers from 0 to many - 1, and not True or False."""
    return type(value) is int and value in range(many)


class Account:
    """The webs of a loom: those up to the place now are told of, those behind it were taken back."""

    def __init__(self, web, barred):
        self.webs = [web]
        self.place = 0
        self.barred = barred

    @property
    def web(self):
        return self.webs[self.place]

    def told(self, name, args):
        """What comes of an edit, undo or redo, and this is done."""
        if name == "undo":
            return self.moved(-1, "NothingToUndo")
        if name == "redo":
            return self.moved(1, "NothingToRedo")
        fault = self.fault(name, args)
        if fault is not None:
            return fault
        self.webs = self.webs[:self.place + 1] + [self.edited(name, *args)]
        self.place += 1
        return ("version", self.place)

    def moved(self, by, word):
        if not is_number(self.place + by, len(self.webs)):
            return (word, None)
        self.place += by
        return ("version", self.place)

    def fault(self, name, args):
        """The first error that applies to an edit, or None."""
        if self.place == 40:
            return ("Full", None)
        if name != "add" and not is_number(args[0], len(self.web)):
            return ("NoStep", args[0])
        if name == "drop" and any(args[0] in inputs for _, inputs in self.web):
            return ("Used", args[0])
        if name == "tie" and not is_number(args[1], len(self.web[args[0]][1])):
            return ("BadWeb", (args[0], "input"))
        web = self.edited(name, *args)
        if web_error(web) is not None:
            return ("BadWeb", web_error(web))
        if self.barred and slow_bars(web):
            return ("Barred", slow_bars(web)[0])
        return None

    def edited(self, name, *args):
        """The web that would come of an edit."""
        steps = list(self.web)
        if name == "add":
            steps.append(args[0])
        elif name == "turn":
            steps[args[0]] = args[1]
        elif name == "tie":
            kind, inputs = steps[args[0]]
            inputs = list(inputs)
            inputs[args[1]] = args[2]
            steps[args[0]] = (kind, tuple(inputs))
        else:
            del steps[args[0]]
            steps = [(kind, tuple(giver - (giver > args[0]) for giver in inputs)) for kind, inputs in steps]
        return tuple(steps)
