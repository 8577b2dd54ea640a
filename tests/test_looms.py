"""[10] and [11]: Loom and PileLoom."""

import unittest

from pilepass.bars import bar
from pilepass.bounds import MAX_EDITS
from pilepass.errors import BadWeb, Barred, NoOrder, NoStep, NothingToRedo, NothingToUndo
from pilepass.looms import Loom, PileLoom
from pilepass.orders import order_count, order_of, orders
from pilepass.webs import meaning, web_error
from tests.account import outcome
from tests.samples import (
    AROUND, CROSSED, EXAMPLE, NO_TUPLES, OTHERS, SQUARE, UNCLOSED, ExactTest, nested, row, same, side_by_side,
    with_a_part_replaced,
)

IN = ("in", ())
NEG = ("neg", (0,))
BARRED = (SQUARE, AROUND, UNCLOSED, CROSSED, side_by_side((IN,) * 5, AROUND), side_by_side(SQUARE, SQUARE))
# The square but for the step whose tie would close it.
ALMOST = SQUARE[:3]
EDITS = (("add", (IN,)), ("drop", (3,)), ("turn", (0, (5, ()))), ("tie", (3, 1, 2)))


class LoomTest(ExactTest):
    """What both classes have in common."""

    made = Loom

    def told(self, loom, web, version):
        """All that a loom tells is what a new one with this web tells, and it has so many edits that stand."""
        other = self.made(web)
        self.check(loom.web, web)
        self.check(loom.version, version)
        self.check(loom.first_order(), order_of(web))
        self.check(loom.first_bar(), bar(web))
        self.check(loom.how_many(), order_count(web))
        self.check(len(loom), len(web))
        self.check([loom[step] for step in range(len(web))], list(web))
        self.check([step for step in loom], list(web))
        self.assertTrue(all(step in loom for step in web))
        self.assertTrue(loom == other and other == loom)
        self.assertFalse(loom != other or other != loom)

    def comes(self, loom, edit, found):
        """This comes of an edit, undo or redo; where an error comes, nothing is changed and nothing is forgotten."""
        name, args = edit
        web, version, later = loom.web, loom.version, self.later_webs(loom)
        self.check(outcome(getattr(loom, name), *args), found)
        if found[0] != "version":
            self.check((loom.web, loom.version), (web, version))
            self.check(self.later_webs(loom), later)

    def later_webs(self, loom):
        """The webs that redo comes to, one after the other; the loom is as before then."""
        webs = []
        while outcome(loom.redo)[0] == "version":
            webs.append(loom.web)
        for _ in webs:
            loom.undo()
        return webs

    def filled(self, many):
        """A loom of the example with so many edits that stand."""
        loom = self.made(EXAMPLE)
        for number in range(many):
            self.check(loom.turn(0, (number, ())), number + 1)
        return loom

    def test_a_new_loom(self):
        for web in (EXAMPLE, (IN,), (IN,) * 10, row(10), ((-99, ()),)):
            self.told(self.made(web), web, 0)
            self.told(self.made(web=web), web, 0)

    def test_no_webs(self):
        for value in NO_TUPLES + OTHERS + ((), (IN,) * 11, list(EXAMPLE), (None,), nested(11), self.made(EXAMPLE),
                                           orders(EXAMPLE), (NEG,), ((True, ()),), (IN, ("neg", (False,)))):
            with self.assertRaises(BadWeb) as caught:
                self.made(value)
            self.check(caught.exception.error, web_error(value))
            self.assertIsNotNone(web_error(value))
        for value in with_a_part_replaced(EXAMPLE):
            if web_error(value) is not None:
                with self.assertRaises(BadWeb) as caught:
                    self.made(web=value)
                self.check(caught.exception.error, web_error(value))

    def test_limit(self):
        self.check(self.made.LIMIT, MAX_EDITS)
        self.check(self.made(EXAMPLE).LIMIT, 40)

    def test_web_and_version_can_only_be_read(self):
        loom = self.made(EXAMPLE)
        for name, value in (("web", (IN,)), ("version", 3)):
            with self.assertRaises(AttributeError):
                setattr(loom, name, value)
            with self.assertRaises(AttributeError):
                delattr(loom, name)
        self.told(loom, EXAMPLE, 0)

    def test_add(self):
        loom = self.made((IN,))
        self.check(loom.add(NEG), 1)
        self.told(loom, (IN, NEG), 1)
        self.check(loom.add(value=("+", (1, 0))), 2)
        self.told(loom, (IN, NEG, ("+", (1, 0))), 2)

    def test_add_up_to_max_steps(self):
        loom = self.made((IN,))
        for many in range(1, 10):
            self.check(loom.add((many, ())), many)
        self.comes(loom, ("add", (IN,)), ("BadWeb", (None, "web")))
        self.comes(loom, ("add", (None,)), ("BadWeb", (None, "web")))
        self.told(loom, (IN,) + tuple((many, ()) for many in range(1, 10)), 9)

    def test_drop(self):
        loom = self.made((IN, (5, ()), ("neg", (0,)), ("+", (2, 0)), ("*", (3, 3))))
        self.check(loom.drop(1), 1)
        self.told(loom, (IN, ("neg", (0,)), ("+", (1, 0)), ("*", (2, 2))), 1)
        self.check(loom.drop(value=3), 2)
        self.told(loom, (IN, ("neg", (0,)), ("+", (1, 0))), 2)

    def test_drop_leaves_integers_that_are_kinds_alone(self):
        loom = self.made(((3, ()), (2, ()), (1, ()), ("neg", (2,))))
        self.check(loom.drop(0), 1)
        self.told(loom, ((2, ()), (1, ()), ("neg", (1,))), 1)

    def test_turn(self):
        loom = self.made(EXAMPLE)
        self.check(loom.turn(0, (7, ())), 1)
        self.check(loom.turn(step=3, value=("neg", (1,))), 2)
        self.told(loom, ((7, ()), IN, ("+", (0, 1)), ("neg", (1,))), 2)

    def test_a_turn_to_the_same_step_is_an_edit(self):
        loom = self.made(EXAMPLE)
        self.check(loom.turn(0, IN), 1)
        self.told(loom, EXAMPLE, 1)
        self.check(loom.tie(3, 0, 2), 2)
        self.check(loom.undo(), 1)
        self.check(loom.undo(), 0)

    def test_tie(self):
        loom = self.made(EXAMPLE)
        self.check(loom.tie(3, 1, 2), 1)
        self.told(loom, EXAMPLE[:3] + (("*", (2, 2)),), 1)
        self.check(loom.tie(step=2, place=0, value=1), 2)
        self.told(loom, (IN, IN, ("+", (1, 1)), ("*", (2, 2))), 2)

    def test_edits_by_name(self):
        for name, args in (("add", {"value": IN}), ("drop", {"value": 3}), ("turn", {"step": 3, "value": IN}),
                           ("tie", {"step": 3, "place": 0, "value": 2})):
            self.check(getattr(self.made(EXAMPLE), name)(**args), 1)

    def test_what_turn_makes_no_web(self):
        loom = self.made(EXAMPLE)
        loom.add(IN)
        loom.undo()
        for step in range(4):
            for value in NO_TUPLES + OTHERS + ((True, ()), ("in", (0,)), ("neg", (True,)), ("neg", [0]), ["in", ()],
                                               ("neg", (4,)), ("neg", (-1,)), ("no", ()), (100, ()), ("pick", (0, 1)),
                                               ("neg", (step,)), ("neg", (3,)), self.made(EXAMPLE)):
                web = EXAMPLE[:step] + (value,) + EXAMPLE[step + 1:]
                error = web_error(web)
                if error is not None:
                    self.comes(loom, ("turn", (step, value)), ("BadWeb", error))
        self.comes(loom, ("turn", (0, ("neg", (3,)))), ("BadWeb", (None, "ring")))
        self.comes(loom, ("turn", (0, ("neg", (0,)))), ("BadWeb", (None, "ring")))
        self.comes(loom, ("turn", (1, ["in", ()])), ("BadWeb", (1, "step")))

    def test_what_add_makes_no_web(self):
        loom = self.made(EXAMPLE)
        for value in NO_TUPLES + OTHERS + (("neg", (4,)), ("neg", (5,)), ("neg", (False,)), (False, ()), EXAMPLE,
                                           list(IN)):
            self.comes(loom, ("add", (value,)), ("BadWeb", web_error(EXAMPLE + (value,))))
        self.comes(loom, ("add", (("neg", (4,)),)), ("BadWeb", (None, "ring")))
        self.comes(loom, ("add", (("neg", (5,)),)), ("BadWeb", (4, "input")))

    def test_what_tie_makes_no_web(self):
        loom = self.made(EXAMPLE)
        for value in NO_TUPLES + OTHERS + ((2,), "0", -1, 4):
            if not (type(value) is int and value in range(4)):
                self.comes(loom, ("tie", (3, 0, value)), ("BadWeb", (3, "input")))
        for value in (2, 3):
            self.comes(loom, ("tie", (2, 0, value)), ("BadWeb", (None, "ring")))

    def test_places_that_are_none(self):
        loom = self.made(EXAMPLE)
        for place in NO_TUPLES + OTHERS + (-1, 2, (0,), "0"):
            if not (type(place) is int and place in (0, 1)):
                for value in (0, 2, None, True, "x", []):
                    self.comes(loom, ("tie", (3, place, value)), ("BadWeb", (3, "input")))
        for step in (0, 1):
            self.comes(loom, ("tie", (step, 0, 0)), ("BadWeb", (step, "input")))
        self.comes(self.made((IN, IN, IN, ("pick", (0, 1, 2)))), ("tie", (3, 3, 0)), ("BadWeb", (3, "input")))
        self.comes(self.made((IN, NEG)), ("tie", (1, 1, 0)), ("BadWeb", (1, "input")))

    def test_numbers_that_are_no_steps(self):
        loom = self.made(EXAMPLE)
        loom.add(IN)
        loom.undo()
        for value in NO_TUPLES + OTHERS + ((), (0,), "0", -1, 4, 10, [0], IN, EXAMPLE, self.made(EXAMPLE)):
            if not (type(value) is int and value in range(4)):
                for edit in (("drop", (value,)), ("turn", (value, IN)), ("turn", (value, None)), ("tie", (value, 0, 0)),
                             ("tie", (value, None, True))):
                    with self.assertRaises(NoStep) as caught:
                        getattr(loom, edit[0])(*edit[1])
                    self.assertIs(caught.exception.value, value)
                with self.assertRaises(NoStep) as caught:
                    loom[value]
                self.assertIs(caught.exception.value, value)
                self.assertEqual(self.later_webs(loom), [EXAMPLE + (IN,)])
        self.told(loom, EXAMPLE, 0)

    def test_used_steps_cannot_be_dropped(self):
        loom = self.made(EXAMPLE)
        for step in range(3):
            self.comes(loom, ("drop", (step,)), ("Used", step))
        self.comes(loom, ("drop", (3,)), ("version", 1))
        self.comes(loom, ("drop", (2,)), ("version", 2))

    def test_the_only_step_cannot_be_dropped(self):
        loom = self.made((IN, NEG))
        self.comes(loom, ("drop", (1,)), ("version", 1))
        self.comes(loom, ("drop", (0,)), ("BadWeb", (None, "web")))
        self.comes(loom, ("drop", (1,)), ("NoStep", 1))
        self.told(loom, (IN,), 1)

    def test_full_comes_ahead_of_all(self):
        loom = self.filled(40)
        for value in (None, IN, 0, 3, 4, True, "in", [], ("neg", (9,))):
            for edit in (("add", (value,)), ("drop", (value,)), ("turn", (value, value)), ("turn", (0, value)),
                         ("tie", (value, value, value)), ("tie", (3, value, 0)), ("tie", (3, 0, value))):
                self.comes(loom, edit, ("Full", None))
        self.told(loom, ((39, ()),) + EXAMPLE[1:], 40)

    def test_each_edit_may_be_the_last_one(self):
        for name, args in EDITS:
            loom = self.filled(39)
            self.comes(loom, (name, args), ("version", 40))
            web = loom.web
            self.comes(loom, (name, args), ("Full", None))
            self.comes(loom, ("undo", ()), ("version", 39))
            self.comes(loom, ("redo", ()), ("version", 40))
            self.told(loom, web, 40)
            self.comes(loom, ("redo", ()), ("NothingToRedo", None))
            self.comes(loom, ("undo", ()), ("version", 39))
            self.comes(loom, ("turn", (1, (7, ()))), ("version", 40))
            self.comes(loom, ("redo", ()), ("NothingToRedo", None))
            self.told(loom, ((38, ()), (7, ())) + EXAMPLE[2:], 40)

    def test_all_edits_taken_back_and_done_again(self):
        loom = self.filled(40)
        for version in range(39, -1, -1):
            self.comes(loom, ("undo", ()), ("version", version))
            self.check(loom.web, EXAMPLE if version == 0 else ((version - 1, ()),) + EXAMPLE[1:])
        self.comes(loom, ("undo", ()), ("NothingToUndo", None))
        for version in range(1, 41):
            self.comes(loom, ("redo", ()), ("version", version))
            self.check(loom.web, ((version - 1, ()),) + EXAMPLE[1:])
        self.comes(loom, ("redo", ()), ("NothingToRedo", None))

    def test_undo_and_redo_at_both_ends(self):
        loom = self.made(EXAMPLE)
        for name, error in (("undo", NothingToUndo), ("redo", NothingToRedo)):
            with self.assertRaises(error):
                getattr(loom, name)()
        loom.add(IN)
        with self.assertRaises(NothingToRedo):
            loom.redo()
        self.check(loom.undo(), 0)
        with self.assertRaises(NothingToUndo):
            loom.undo()
        self.told(loom, EXAMPLE, 0)
        self.check(loom.redo(), 1)
        self.told(loom, EXAMPLE + (IN,), 1)

    def test_an_edit_forgets_all_that_was_taken_back(self):
        for name, args in EDITS:
            loom = self.filled(5)
            for _ in range(3):
                loom.undo()
            self.check(len(self.later_webs(loom)), 3)
            self.comes(loom, (name, args), ("version", 3))
            self.check(self.later_webs(loom), [])
            self.comes(loom, ("undo", ()), ("version", 2))
            self.told(loom, ((1, ()),) + EXAMPLE[1:], 2)

    def test_several_errors(self):
        loom = self.made(EXAMPLE)
        # A step that is none comes ahead of what would come.
        self.comes(loom, ("turn", (4, None)), ("NoStep", 4))
        self.comes(loom, ("tie", (4, 7, None)), ("NoStep", 4))
        self.comes(loom, ("tie", (True, 7, None)), ("NoStep", True))
        # A step that is used comes ahead of what would come.
        self.comes(self.made((IN, NEG)), ("drop", (0,)), ("Used", 0))
        # A place that is none comes ahead of an input that is none and of a ring.
        self.comes(loom, ("tie", (2, 2, 2)), ("BadWeb", (2, "input")))
        # The first fault of what would come is told.
        self.comes(loom, ("turn", (0, ("no", [0]))), ("BadWeb", (0, "step")))
        self.comes(loom, ("turn", (0, ("no", (77,)))), ("BadWeb", (0, "kind")))
        self.comes(loom, ("turn", (0, ("neg", (0, 77)))), ("BadWeb", (0, "many")))

    def test_run(self):
        loom = self.made(EXAMPLE)
        self.check(loom.run((5, 7)), (60,))
        self.check(loom.run(worths=(5, 7)), (60,))
        loom.turn(3, ("-", (0, 2)))
        self.check(loom.run((5, 7)), (-7,))
        loom.drop(3)
        loom.turn(0, (-99, ()))
        self.check(loom.run((10 ** 40 - 1,)), (10 ** 40 - 100,))
        self.check(self.made((IN,) * 10).run(tuple(range(10))), tuple(range(10)))
        self.check(self.made(((7, ()),)).run(()), (7,))
        web = (IN,) + tuple(("*", (step, step)) for step in range(9))
        self.check(self.made(web).run((-(10 ** 40 - 1),)), ((10 ** 40 - 1) ** 512,))

    def test_twin(self):
        loom = self.filled(7)
        loom.undo()
        twin = loom.twin()
        self.assertIs(type(twin), self.made)
        self.assertIsNot(twin, loom)
        self.told(twin, ((5, ()),) + EXAMPLE[1:], 0)
        self.comes(twin, ("undo", ()), ("NothingToUndo", None))
        self.comes(twin, ("redo", ()), ("NothingToRedo", None))
        self.check(loom.version, 6)

    def test_looms_do_not_change_one_another(self):
        loom = self.made(EXAMPLE)
        looms = [self.made(EXAMPLE), loom.twin(), loom.twin().twin()]
        loom.add(IN)
        for other in looms:
            self.told(other, EXAMPLE, 0)
            self.comes(other, ("redo", ()), ("NothingToRedo", None))
        looms[1].drop(3)
        self.told(loom, EXAMPLE + (IN,), 1)
        self.told(looms[0], EXAMPLE, 0)
        loom.undo()
        self.told(looms[1], EXAMPLE[:3], 1)
        self.check(self.later_webs(loom), [EXAMPLE + (IN,)])

    def test_items(self):
        loom = self.made(row(10))
        self.check(len(loom), 10)
        self.check((loom[0], loom[9]), (IN, ("neg", (8,))))
        for step in (-1, 10, True, False, None, "0", (0,)):
            with self.assertRaises(NoStep) as caught:
                loom[step]
            self.assertIs(caught.exception.value, step)
        loom.drop(9)
        with self.assertRaises(NoStep):
            loom[9]
        self.check(len(loom), 9)

    def test_in(self):
        web = ((1, ()), (0, ()), ("in", ()), ("neg", (1,)), ("+", (0, 1)))
        loom = self.made(web)
        for step in web:
            self.check(step in loom, True)
            self.check(step not in loom, False)
            for other in with_a_part_replaced(step):
                self.check(other in loom, any(same(other, one) for one in web))
        for value in NO_TUPLES + OTHERS + (web, (True, ()), (False, ()), ("neg", (True,)), ("+", (False, 1)),
                                           ("+", (0, True)), ["in", ()], ("in", []), ("neg", [1]), ("neg", (0,)), loom,
                                           (loom, ()), ("in", loom), nested(11), orders(EXAMPLE)):
            self.check(value in loom, False)

    def test_in_tells_of_the_web_now(self):
        loom = self.made(EXAMPLE)
        self.check((7, ()) in loom, False)
        loom.add((7, ()))
        self.check((7, ()) in loom, True)
        loom.undo()
        self.check((7, ()) in loom, False)

    def test_equal(self):
        loom = self.made(EXAMPLE)
        self.check(loom == loom, True)
        self.check(loom == self.made(tuple(list(EXAMPLE))), True)
        for value in NO_TUPLES + OTHERS + (EXAMPLE, list(EXAMPLE), (loom,), nested(11), orders(EXAMPLE)):
            self.check(loom == value, False)
            self.check(value == loom, False)
            self.check(loom != value, True)
            self.check(value != loom, True)

    def test_equal_webs_make_equal_looms_whatever_was_done(self):
        loom, other = self.made(EXAMPLE), self.filled(3)
        self.check((loom == other, loom != other), (False, True))
        loom.turn(0, (2, ()))
        self.check((loom == other, loom != other), (True, False))
        other.undo()
        self.check((loom == other, loom != other), (False, True))

    def test_looms_of_the_two_classes_are_not_equal(self):
        one, other = Loom(EXAMPLE), PileLoom(EXAMPLE)
        self.check((one == other, other == one), (False, False))
        self.check((one != other, other != one), (True, True))

    def test_going_through_while_it_is_edited(self):
        loom = self.made(EXAMPLE)
        found = []
        for step in loom:
            found.append(step)
            loom.turn(0, (len(found), ()))
            if len(found) % 2:
                loom.add(IN)
        self.check(tuple(found), EXAMPLE)
        self.check(len(loom), 6)
        found = []
        for step in loom:
            for other in loom:
                found.append((step, other))
            loom.undo()
        self.check(len(found), 6 + 6 + 5 + 5 + 5 + 4)

    def test_going_through_begins_anew_each_time(self):
        loom = self.made(EXAMPLE)
        self.check(list(loom), list(EXAMPLE))
        steps = iter(loom)
        self.check(next(steps), IN)
        loom.drop(3)
        self.check(list(steps), list(EXAMPLE[1:]))
        self.check(list(loom), list(EXAMPLE[:3]))
        self.check(tuple(loom), EXAMPLE[:3])

    def test_what_was_returned_does_not_change(self):
        loom = self.made(EXAMPLE)
        web, order = loom.web, loom.first_order()
        loom.turn(3, ("*", (2, 2)))
        loom.drop(3)
        self.check((web, order), (EXAMPLE, (0, 1, 2, 3)))

    def test_nothing_that_is_passed_is_changed(self):
        loom = self.made(EXAMPLE)
        value = [["in", []], {"neg": [0]}]
        for edit in (("add", (value,)), ("drop", (value,)), ("turn", (value, value)), ("turn", (0, value)),
                     ("tie", (value, value, value)), ("tie", (3, value, value)), ("tie", (3, 0, value))):
            outcome(getattr(loom, edit[0]), *edit[1])
        self.check([value in loom, loom == value], [False, False])
        self.assertEqual(value, [["in", []], {"neg": [0]}])
        self.told(loom, EXAMPLE, 0)


class PileLoomTest(LoomTest):
    """The same of a PileLoom, and what it does with webs that have no right order."""

    made = PileLoom

    def test_it_is_a_loom(self):
        self.assertTrue(issubclass(PileLoom, Loom))
        self.assertIsInstance(PileLoom(EXAMPLE), Loom)

    def test_webs_with_a_bar(self):
        for web in BARRED:
            self.assertIsNotNone(bar(web))
            for call in (lambda: PileLoom(web), lambda: PileLoom(web=web)):
                with self.assertRaises(Barred) as caught:
                    call()
                self.check(caught.exception.bar, bar(web))

    def test_bad_web_comes_ahead_of_barred(self):
        for web in (SQUARE + (None,), SQUARE + (IN,) * 7, list(SQUARE), SQUARE + (("neg", (4,)),)):
            with self.assertRaises(BadWeb) as caught:
                PileLoom(web)
            self.check(caught.exception.error, web_error(web))

    def test_add_that_leaves_no_right_order(self):
        loom = PileLoom(ALMOST)
        loom.add(IN)
        loom.undo()
        self.comes(loom, ("add", (SQUARE[3],)), ("Barred", ("apart", (0, 1, 2, 3), 0, 1)))
        self.told(loom, ALMOST, 0)

    def test_turn_and_tie_that_leave_no_right_order(self):
        loom = PileLoom(ALMOST + (IN,))
        loom.turn(0, (7, ()))
        loom.undo()
        self.comes(loom, ("turn", (3, SQUARE[3])), ("Barred", ("apart", (0, 1, 2, 3), 0, 1)))
        self.comes(loom, ("turn", (3, ("+", (0, 0)))), ("version", 1))
        self.comes(loom, ("tie", (3, 1, 1)), ("Barred", ("apart", (0, 1, 2, 3), 0, 1)))
        self.comes(loom, ("tie", (3, 1, 2)), ("version", 2))

    def test_all_other_errors_come_ahead_of_barred(self):
        loom = PileLoom(ALMOST + (("+", (0, 0)),))
        self.comes(loom, ("tie", (3, 2, 1)), ("BadWeb", (3, "input")))
        self.comes(loom, ("tie", (4, 1, 1)), ("NoStep", 4))
        self.comes(loom, ("tie", (3, 1, 1)), ("Barred", ("apart", (0, 1, 2, 3), 0, 1)))
        self.comes(loom, ("turn", (3, ("-", (1, 0)))), ("Barred", ("apart", (0, 1, 2, 3), 0, 1)))
        self.comes(loom, ("turn", (3, ("-", (1, 4)))), ("BadWeb", (3, "input")))
        self.comes(loom, ("turn", (1, ("-", (2, 3)))), ("BadWeb", (None, "ring")))
        for number in range(40):
            loom.turn(0, (number, ()))
        self.comes(loom, ("tie", (3, 1, 1)), ("Full", None))
        self.comes(loom, ("undo", ()), ("version", 39))
        self.comes(loom, ("tie", (3, 1, 1)), ("Barred", ("apart", (0, 1, 2, 3), 0, 1)))
        self.comes(loom, ("redo", ()), ("version", 40))

    def test_drop_never_leaves_a_web_without_a_right_order(self):
        for web in (EXAMPLE, (IN, NEG, NEG), row(10)):
            loom = PileLoom(web)
            while len(loom) > 1:
                loom.drop(len(loom) - 1)
            self.check(loom.web, (IN,))


class LoomWithBarTest(ExactTest):
    """A Loom may have a web without a right order."""

    def test_it_tells_of_it(self):
        for web in BARRED:
            loom = Loom(web)
            self.check((loom.first_order(), loom.how_many(), loom.first_bar()), (None, 0, bar(web)))
            with self.assertRaises(NoOrder):
                loom.run((1,) * len(web))
            self.check(Loom(web) == loom.twin(), True)

    def test_edits_that_leave_no_right_order(self):
        loom = Loom(ALMOST)
        self.check(loom.add(SQUARE[3]), 1)
        self.check(loom.first_bar(), ("apart", (0, 1, 2, 3), 0, 1))
        with self.assertRaises(NoOrder):
            loom.run(worths=(1, 2))
        self.check(loom.tie(3, 1, 0), 2)
        self.check((loom.first_order(), loom.first_bar(), loom.how_many()), ((0, 1, 2, 3), None, 3))
        self.check(loom.run((1, 2)), meaning(loom.web, (1, 2)))
        self.check(loom.undo(), 1)
        self.check(loom.first_order(), None)


if __name__ == "__main__":
    unittest.main()
