"""Looms: webs that are edited."""

from pilepass.bars import bar
from pilepass.errors import BadWeb, Barred, Full, NoOrder, NoStep, NothingToRedo, NothingToUndo, Used
from pilepass.orders import order_count, order_of
from pilepass.piles import program, run
from pilepass.webs import is_exact, is_step, takers_of, web_error, with_inputs


class Loom:
    """A web under edits."""

    # MAX_EDITS, written out: what stands here has to be a plain value.
    LIMIT = 40

    def __init__(self, web):
        self._check(web)
        self._web = web
        # The webs ahead of the edits that stand, and those behind the edits that were taken back.
        self._earlier = []
        self._later = []

    @property
    def web(self):
        """The web now."""
        return self._web

    @property
    def version(self):
        """How many edits stand."""
        return len(self._earlier)

    def first_order(self):
        """The first right order of the web now; None if there is none."""
        return order_of(self._web)

    def first_bar(self):
        """The first bar of the web now; None if there is none."""
        return bar(self._web)

    def how_many(self):
        """How many right orders the web has now."""
        return order_count(self._web)

    def add(self, value):
        """Put a step behind the others; the new version."""
        self._check_room()
        return self._change(self._web + (value,))

    def drop(self, value):
        """Take the step with this number out; the new version."""
        self._check_room()
        self._check_step(value)
        if takers_of(self._web)[value]:
            raise Used(value)
        rest = [step for step in range(len(self._web)) if step != value]
        numbers = {old: new for new, old in enumerate(rest)}
        return self._change(tuple([with_inputs(self._web[step], numbers) for step in rest]))

    def turn(self, step, value):
        """Put another step in the place of the one with this number; the new version."""
        self._check_room()
        self._check_step(step)
        return self._change(self._web[:step] + (value,) + self._web[step + 1:])

    def tie(self, step, place, value):
        """Let the input with this place of a step become another one; the new version."""
        self._check_room()
        self._check_step(step)
        kind, inputs = self._web[step]
        if not is_step(place, len(inputs)):
            raise BadWeb((step, "input"))
        changed = (kind, inputs[:place] + (value,) + inputs[place + 1:])
        return self._change(self._web[:step] + (changed,) + self._web[step + 1:])

    def undo(self):
        """Take back the last edit that stands; the version then."""
        if not self._earlier:
            raise NothingToUndo()
        self._later.append(self._web)
        self._web = self._earlier.pop()
        return self.version

    def redo(self):
        """Do the edit again that was taken back last and is not done again; the version then."""
        if not self._later:
            raise NothingToRedo()
        self._earlier.append(self._web)
        self._web = self._later.pop()
        return self.version

    def run(self, worths):
        """The results of the pile machine for the program of the first right order."""
        order = self.first_order()
        if order is None:
            raise NoOrder()
        return run(self._web, program(self._web, order), worths)

    def twin(self):
        """A new loom with the same web."""
        return Loom(self._web)

    def _check(self, web):
        """Raise an error if a value cannot be the web."""
        error = web_error(web)
        if error is not None:
            raise BadWeb(error)

    def _check_room(self):
        """Raise an error if no further edit may stand."""
        if self.version >= self.LIMIT:
            raise Full()

    def _check_step(self, value):
        """Raise an error if a value is no step number."""
        if not is_step(value, len(self._web)):
            raise NoStep(value)

    def _change(self, web):
        """Do the edit from which this web comes, if it may be the web; the new version."""
        self._check(web)
        self._earlier.append(self._web)
        self._later = []
        self._web = web
        return self.version

    def __len__(self):
        return len(self._web)

    def __getitem__(self, step):
        if not is_step(step, len(self._web)):
            raise NoStep(step)
        return self._web[step]

    def __contains__(self, value):
        # Python takes True and False for 1 and 0.
        return value in self._web and is_exact(value)

    def __iter__(self):
        return iter(self._web)

    def __eq__(self, other):
        return isinstance(other, Loom) and type(self) is type(other) and self._web == other._web


class PileLoom(Loom):
    """A loom whose web always has a right order."""

    def __init__(self, web):
        super().__init__(web)

    def twin(self):
        """A new loom with the same web."""
        return PileLoom(self._web)

    def _check(self, web):
        super()._check(web)
        found = bar(web)
        if found is not None:
            raise Barred(found)
