"""The errors that the package raises."""


class WebError(ValueError):
    """The base of all errors but NoStep."""


class BadWeb(WebError):
    """A value is no web; error is what web_error tells of it."""

    def __init__(self, error):
        self.error = error


class BadOrder(WebError):
    """A value is no tuple that has each step number just once."""


class TooMany(WebError):
    """Two webs have more steps together than a web may have."""


class Short(WebError):
    """The instruction with this index finds fewer cells than it takes."""

    def __init__(self, index):
        self.index = index


class Left(WebError):
    """So many cells are left at the end of a program."""

    def __init__(self, many):
        self.many = many


class NoOrder(WebError):
    """A web without a right order cannot be run."""


class Barred(WebError):
    """A web has no right order; bar shows why."""

    def __init__(self, bar):
        self.bar = bar


class Full(WebError):
    """As many edits stand as may stand."""


class Used(WebError):
    """The step value is a giver of a tie and cannot be dropped."""

    def __init__(self, value):
        self.value = value


class NothingToUndo(WebError):
    """No edit stands that could be taken back."""


class NothingToRedo(WebError):
    """No edit was taken back that could be done again."""


class BadText(WebError):
    """The line with this number tells no step; None if there is no text at all."""

    def __init__(self, line):
        self.line = line


class NoStep(LookupError):
    """The value is no step number of the web."""

    def __init__(self, value):
        self.value = value
