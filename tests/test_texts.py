"""[12]: web_text and read_web."""

import unittest
from itertools import product

from pilepass.errors import BadText, BadWeb
from pilepass.looms import Loom
from pilepass.orders import orders
from pilepass.texts import read_web, web_text
from pilepass.webs import web_error
from tests.samples import AROUND, EXAMPLE, KINDS, NO_TUPLES, SQUARE, ExactTest, any_web, nested, row
from tests.test_small_machines import RANDOM, SOME, with_numbers

IN = ("in", ())
TEXT = "in\nin\n+ 0 1\n* 2 0"
# All signs that a string may have: printable ASCII without the percent sign, and the line feed.
SIGNS = "\n" + "".join(chr(code) for code in range(32, 127) if code != 37)


class WebTextTest(ExactTest):

    def told(self, web, text):
        """This is the text, by position and by name, and it is read as the web again."""
        self.check(web_text(web), text)
        self.check(web_text(web=web), text)
        self.check(read_web(text), web)
        self.check(read_web(value=text), web)

    def test_example(self):
        self.told(EXAMPLE, TEXT)

    def test_one_step(self):
        self.told((IN,), "in")
        self.told(((0, ()),), "0")

    def test_each_integer(self):
        for number in range(-99, 100):
            self.told(((number, ()), IN), f"{number}\nin")

    def test_each_kind(self):
        web = (IN, ("neg", (0,)), ("+", (1, 0)), ("-", (2, 2)), ("*", (0, 3)), ("pick", (4, 0, 4)), (-7, ()))
        self.told(web, "in\nneg 0\n+ 1 0\n- 2 2\n* 0 3\npick 4 0 4\n-7")

    def test_ten_steps(self):
        self.told(row(10), "in\n" + "\n".join(f"neg {step}" for step in range(9)))
        self.told((IN,) * 10, "\n".join(["in"] * 10))
        self.told(tuple(("neg", (step + 1,)) for step in range(9)) + (IN,),
                  "neg 1\nneg 2\nneg 3\nneg 4\nneg 5\nneg 6\nneg 7\nneg 8\nneg 9\nin")

    def test_webs_without_a_right_order(self):
        for web in (SQUARE, AROUND):
            self.check(read_web(web_text(web)), web)

    def test_there_and_back(self):
        for web in [with_numbers(web) for web in SOME] + [any_web(RANDOM, 10) for _ in range(200)]:
            text = "\n".join(" ".join([str(kind), *map(str, inputs)]) for kind, inputs in web)
            self.told(web, text)


class ReadWebTest(ExactTest):

    def bad_text(self, value, line):
        with self.assertRaises(BadText) as caught:
            read_web(value)
        self.check(caught.exception.line, line)
        with self.assertRaises(BadText) as caught:
            read_web(value=value)
        self.check(caught.exception.line, line)

    def bad_web(self, value, error):
        with self.assertRaises(BadWeb) as caught:
            read_web(value)
        self.check(caught.exception.error, error)

    def bad_line(self, text):
        """This line tells no step, wherever it stands."""
        self.bad_text(text, 0)
        self.bad_text("in\n" + text, 1)
        self.bad_text("neg 0\n" + text + "\nin\nx", 1)
        self.bad_text("in\n" * 20 + text, 20)

    def test_no_strings(self):
        for value in NO_TUPLES + ((), EXAMPLE, (TEXT,), [TEXT], TEXT.split("\n"), nested(11), Loom(EXAMPLE),
                                  orders(EXAMPLE)):
            if not isinstance(value, str):
                self.bad_text(value, None)

    def test_empty_lines(self):
        self.bad_text("", 0)
        self.bad_text("\n", 0)
        self.bad_text("in\n", 1)
        self.bad_text(TEXT + "\n", 4)
        self.bad_text("\n" + TEXT, 0)
        self.bad_text("in\n\nin", 1)
        self.bad_text("in\nin\n\n\n", 2)
        self.bad_line("")

    def test_spaces(self):
        for text in (" ", "  ", " in", "in ", "neg  0", "neg 0 ", " neg 0", "+ 0  1", "+  0 1", "+ 0 1 ", "- ", " -",
                     "-  1", "5 ", " 5", "- 5", "\tin", "neg\t0"):
            self.bad_line(text)

    def test_other_signs(self):
        for text in ("In", "IN", "i", "inn", "in,", "neg 0,", "neg,0", "neg(0)", "+0 1", "+ 0,1", "/ 0 1", "** 0 1",
                     "pick 0 1", "pick 0 1 2 3", "x", "neg x", "neg 0x", "neg 1.0", "neg 1e1", "neg 0_1", "neg +1",
                     "neg -1", "neg -0", "+ 0 -1", "in\r", "neg 0\r", "None", "True", "()", "0.0", "1e1", "1_0", "+5",
                     "+ 5", "--5", "-x", "~", "- -", "+ + +", "neg in", "in in", "5 5", "-5 0", "\u0663",
                     "neg \u0663", "neg \u00b2", "\uff11"):
            self.bad_line(text)

    def test_too_few_and_too_many_numbers(self):
        for kind, many in {**KINDS, "7": 0, "-7": 0}.items():
            for other in range(6):
                text = " ".join([kind] + ["0"] * other)
                if other != many:
                    self.bad_line(text)

    def test_integers_without_leading_zeros(self):
        for text in ("00", "01", "007", "-0", "-00", "-01", "-", "--1", "100", "-100", "101", "999", "-999", "1" * 40,
                     "-" * 9, "+1", "- 1", "1-", "0-1", "1" * 2000):
            self.bad_line(text)

    def test_numbers_of_one_or_two_digits_without_leading_zeros(self):
        for number in range(100):
            text = f"in\nneg {number}"
            if number < 2:
                error = None if number == 0 else (None, "ring")
            else:
                error = (1, "input")
            if error is None:
                self.check(read_web(text), (IN, ("neg", (0,))))
            else:
                self.bad_web(text, error)
        for word in ("00", "01", "09", "000", "001", "100", "0100", "999", "1" * 40, "-1", "-0", "+1", ""):
            self.bad_line(f"neg {word}")
            self.bad_line(f"+ 0 {word}")
            self.bad_line(f"pick {word} 0 0")

    def test_numbers_need_not_be_step_numbers_until_all_lines_are_read(self):
        self.bad_web("neg 99", (0, "input"))
        self.bad_text("neg 99\nx", 1)
        self.bad_web("in\n+ 0 3\nneg 77", (1, "input"))

    def test_faults_of_the_web(self):
        self.bad_web("\n".join(["in"] * 11), (None, "web"))
        self.bad_web("\n".join(["in"] * 667), (None, "web"))
        self.bad_web("\n".join(["neg 99"] * 11), (None, "web"))
        self.bad_text("\n".join(["in"] * 11) + "\n", 11)
        self.bad_web("neg 0", (None, "ring"))
        self.bad_web("neg 1\nneg 0", (None, "ring"))
        self.bad_web("neg 1\nneg 0\nneg 3", (2, "input"))

    def test_the_first_line_with_a_fault(self):
        self.bad_text("x\ny", 0)
        self.bad_text("in\ny\nneg 99\nz", 1)
        self.bad_text("neg 0\nin\n+ 0", 2)

    def test_signs_in_the_place_of_others(self):
        text = "in\n-7\n+ 0 1"
        for at in range(len(text) + 1):
            for sign in SIGNS:
                for value in (text[:at] + sign + text[at + 1:], text[:at] + sign + text[at:]):
                    self.check(outcome(value), slow_outcome(value))

    def test_all_short_texts(self):
        for many in range(4):
            for signs in product("in \n-+*0192", repeat=many):
                self.check(outcome("".join(signs)), slow_outcome("".join(signs)))


def outcome(value):
    """The web, or what the error tells."""
    try:
        return read_web(value)
    except BadText as error:
        return ["text", error.line]
    except BadWeb as error:
        return ["web", error.error]


NUMBERS = {str(number): number for number in range(100)}
WORDS = {**{kind: kind for kind in KINDS}, **{str(number): number for number in range(-99, 100)}}


def slow_outcome(text):
    """The same, by looking each word up among all that there are."""
    steps = []
    for line, told in enumerate(text.split("\n")):
        word, *rest = told.split(" ")
        if word not in WORDS or len(rest) != KINDS.get(word, 0) or any(other not in NUMBERS for other in rest):
            return ["text", line]
        steps.append((WORDS[word], tuple(NUMBERS[other] for other in rest)))
    error = web_error(tuple(steps))
    return tuple(steps) if error is None else ["web", error]


if __name__ == "__main__":
    unittest.main()
