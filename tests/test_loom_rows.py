"""[1] (e), [10] and [11]: rows of drawn edits, undo, redo and twin, against a plain account of the webs."""

import random
import unittest

from pilepass.errors import NoOrder, NoStep
from pilepass.looms import Loom, PileLoom
from tests.account import Account, outcome
from tests.samples import (
    AROUND, CROSSED, EXAMPLE, NO_TUPLES, SQUARE, UNCLOSED, ExactTest, any_web, row, same, step_with,
)
from tests.slow import slow_bars, slow_meaning, slow_orders

RANDOM = random.Random(11)
WRONG = (None, True, False, -1, 10, "0", (), [], {}, (0,), ("in",), ["in", ()], ("in", []), ("no", ()), (True, ()),
         ("in", (0,)), ("neg", (True,)), ("neg", (10,)), ("neg", (-1,)), ("+", (0,)), (100, ()))


def drawn_step(many):
    """A step of any kind, most often a right one for a web of so many steps."""
    if RANDOM.random() < 0.1:
        return RANDOM.choice(WRONG)
    needed = RANDOM.choice((0, 0, 1, 1, 2, 2, 3))
    kind, inputs = step_with([RANDOM.randrange(many) for _ in range(needed)])
    kinds = {"in": ("in", RANDOM.randint(-99, 99)), "-": ("+", "-", "*")}
    return (RANDOM.choice(kinds.get(kind, (kind,))), inputs)


def drawn_number(many):
    """A number of so many, most often; sometimes one that is none."""
    return RANDOM.choice(WRONG) if RANDOM.random() < 0.08 else RANDOM.randrange(many + (RANDOM.random() < 0.05))


def drawn_edit(web, most):
    """A pair of the name of a call and its arguments, for a web that should not have more than so many steps."""
    many = len(web)
    name = RANDOM.choice(("add", "add", "drop", "drop", "turn", "turn", "turn", "tie", "tie", "tie"))
    if name == "add":
        return (name, (drawn_step(many),)) if many < most else ("turn", (drawn_number(many), drawn_step(many)))
    if name == "drop":
        return (name, (drawn_number(many),))
    if name == "turn":
        return (name, (drawn_number(many), drawn_step(many)))
    step = drawn_number(many)
    needed = len(web[step][1]) if type(step) is int and step in range(many) else 1
    return (name, (step, drawn_number(needed or 1), drawn_number(many)))


class RowsTest(ExactTest):

    def told(self, loom, account):
        """All that the loom tells is what a new one with this web tells."""
        web, version = account.web, account.place
        found = slow_orders(web)
        self.check((loom.web, loom.version), (web, version))
        self.check(loom.first_order(), found[0] if found else None)
        self.check(loom.first_bar(), slow_bars(web)[0] if slow_bars(web) else None)
        self.check(loom.how_many(), len(found))
        self.check(len(loom), len(web))
        self.check(tuple(step for step in loom), web)
        self.check(tuple(loom[step] for step in range(len(web))), web)
        with self.assertRaises(NoStep):
            loom[len(web)]
        for value in web + WRONG + (drawn_step(len(web)),):
            self.check(value in loom, any(same(value, step) for step in web))
        worths = tuple(RANDOM.randint(-9, 9) for kind, _ in web if kind == "in")
        if found:
            self.check(loom.run(worths), slow_meaning(web, worths))
        else:
            with self.assertRaises(NoOrder):
                loom.run(worths)
        other = type(loom)(web)
        self.check((loom == other, loom != other, other == loom), (True, False, True))
        changed = type(loom)(web[:-1] + ((98, ()),)) if web[-1] != (98, ()) else type(loom)(web + web)
        self.check((loom == changed, loom != changed, changed == loom), (False, True, False))

    def row_of_edits(self, made, web, many, most, share):
        """So many drawn calls; the share tells how many of them are undo and redo. How often each outcome came."""
        loom, account = made(web), Account(web, made is PileLoom)
        words = {}
        for _ in range(many):
            draw = RANDOM.random()
            name, args = drawn_edit(account.web, most)
            if draw < share:
                name, args = RANDOM.choice((("undo", ()), ("redo", ()), ("undo", ()), ("redo", ()), ("undo", ())))
            found = outcome(getattr(loom, name), *args)
            told = account.told(name, args)
            self.check(found, told)
            words[told[0]] = words.get(told[0], 0) + 1
            self.told(loom, account)
            if RANDOM.random() < 0.008:
                loom, before = loom.twin(), loom
                self.check((type(loom) is made, loom == before, loom.version), (True, True, 0))
                account = Account(account.web, made is PileLoom)
                # What is done with the loom before does not change its twin.
                for name, args in (drawn_edit(account.web, most), ("undo", ()), ("redo", ())):
                    outcome(getattr(before, name), *args)
                self.told(loom, account)
        return words

    def many_rows(self, made, webs, expected):
        words = {}
        for web in webs:
            for many, most, share in ((80, 5, 0.3), (60, 6, 0.5), (160, 4, 0.02)):
                for word, times in self.row_of_edits(made, web, many, most, share).items():
                    words[word] = words.get(word, 0) + times
        for word in expected:
            self.assertGreater(words.get(word, 0), 10, (word, words))

    def test_looms(self):
        webs = [EXAMPLE, (("in", ()),), SQUARE, AROUND, UNCLOSED, CROSSED, row(5)]
        self.many_rows(Loom, webs + [any_web(RANDOM, 5) for _ in range(3)], (
            "version", "Full", "NoStep", "Used", "BadWeb", "NothingToUndo", "NothingToRedo",
        ))

    def test_pile_looms(self):
        webs = [EXAMPLE, (("in", ()),), SQUARE[:3], AROUND[:4], row(5), (("in", ()),) * 5]
        webs += [web for web in [any_web(RANDOM, 5) for _ in range(12)] if slow_orders(web)]
        self.many_rows(PileLoom, webs, (
            "version", "Full", "NoStep", "Used", "BadWeb", "NothingToUndo", "NothingToRedo", "Barred",
        ))

    def test_two_looms_by_turns(self):
        """Edits of one loom change nothing of another one, of whichever class, with the same webs."""
        looms = [made(EXAMPLE) for made in (Loom, PileLoom, Loom, PileLoom)]
        accounts = [Account(EXAMPLE, type(loom) is PileLoom) for loom in looms]
        for _ in range(600):
            at = RANDOM.randrange(4)
            name, args = drawn_edit(accounts[at].web, 5)
            if RANDOM.random() < 0.4:
                name, args = RANDOM.choice((("undo", ()), ("redo", ())))
            self.check(outcome(getattr(looms[at], name), *args), accounts[at].told(name, args))
            for loom, account in zip(looms, accounts):
                self.check((loom.web, loom.version), (account.web, account.place))

    def test_going_through_while_edits_are_drawn(self):
        for made in (Loom, PileLoom):
            loom = made(EXAMPLE)
            for _ in range(60):
                web, found = loom.web, []
                for step in loom:
                    found.append(step)
                    name, args = drawn_edit(loom.web, 6)
                    if RANDOM.random() < 0.5:
                        name, args = RANDOM.choice((("undo", ()), ("redo", ())))
                    outcome(getattr(loom, name), *args)
                self.check(tuple(found), web)

    def test_values_of_all_kinds(self):
        """Each argument of each edit is given values of all kinds, where other arguments are right or wrong."""
        for made in (Loom, PileLoom):
            for value in NO_TUPLES + WRONG:
                for edit in (("add", (value,)), ("drop", (value,)), ("turn", (value, value)), ("turn", (0, value)),
                             ("turn", (value, ("in", ()))), ("tie", (value, value, value)), ("tie", (3, value, value)),
                             ("tie", (3, 0, value)), ("tie", (3, value, 0)), ("tie", (value, 0, 0))):
                    loom, account = made(EXAMPLE), Account(EXAMPLE, made is PileLoom)
                    self.check(outcome(getattr(loom, edit[0]), *edit[1]), account.told(*edit))
                    self.check((loom.web, loom.version), (account.web, account.place))


if __name__ == "__main__":
    unittest.main()
