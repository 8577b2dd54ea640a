"""[13]: the error classes, their bases and their attributes."""

import unittest

from pilepass import errors
from tests.samples import EXAMPLE, NO_TUPLES

# The attribute of each class whose only base is WebError, None for those without one.
ATTRIBUTES = {
    "BadWeb": "error", "BadOrder": None, "TooMany": None, "Short": "index", "Left": "many",
    "NoOrder": None, "Barred": "bar", "Full": None, "Used": "value", "NothingToUndo": None,
    "NothingToRedo": None, "BadText": "line",
}
WITH_ARGUMENT = {name: word for name, word in ATTRIBUTES.items() if word}
WITH_ARGUMENT["NoStep"] = "value"


class BasesTest(unittest.TestCase):

    def test_web_error_is_a_value_error(self):
        self.assertEqual(errors.WebError.__bases__, (ValueError,))

    def test_web_error_is_the_only_base(self):
        for name in ATTRIBUTES:
            with self.subTest(name):
                self.assertEqual(getattr(errors, name).__bases__, (errors.WebError,))

    def test_no_step_is_a_lookup_error(self):
        self.assertEqual(errors.NoStep.__bases__, (LookupError,))
        self.assertFalse(issubclass(errors.NoStep, ValueError))

    def test_each_class_is_of_no_other_class_of_the_list(self):
        names = [*ATTRIBUTES, "NoStep", "WebError"]
        for one in names:
            for other in names:
                with self.subTest(one=one, other=other):
                    told = issubclass(getattr(errors, one), getattr(errors, other))
                    self.assertEqual(told, one == other or (other == "WebError" and one != "NoStep"))

    def test_each_class_has_its_own_name(self):
        for name in [*ATTRIBUTES, "NoStep", "WebError"]:
            self.assertEqual(getattr(errors, name).__name__, name)
            self.assertEqual(getattr(errors, name).__module__, "pilepass.errors")


class AttributesTest(unittest.TestCase):

    def test_argument_by_position_is_an_attribute(self):
        for name, word in WITH_ARGUMENT.items():
            for value in (*NO_TUPLES, (), (None, "web"), EXAMPLE, 10 ** 5000):
                with self.subTest(name):
                    error = getattr(errors, name)(value)
                    self.assertIs(getattr(error, word), value)

    def test_argument_by_name_is_an_attribute(self):
        for name, word in WITH_ARGUMENT.items():
            with self.subTest(name):
                value = [name]
                error = getattr(errors, name)(**{word: value})
                self.assertIs(getattr(error, word), value)

    def test_argument_is_an_attribute_of_the_object_alone(self):
        for name, word in WITH_ARGUMENT.items():
            with self.subTest(name):
                one, other = getattr(errors, name)(1), getattr(errors, name)(2)
                self.assertEqual((getattr(one, word), getattr(other, word)), (1, 2))
                self.assertEqual(vars(one), {word: 1})

    def test_argument_is_needed(self):
        for name in WITH_ARGUMENT:
            with self.subTest(name), self.assertRaises(TypeError):
                getattr(errors, name)()

    def test_raised_and_caught_with_its_attribute(self):
        for name, word in WITH_ARGUMENT.items():
            base = LookupError if name == "NoStep" else errors.WebError
            with self.subTest(name):
                with self.assertRaises(base) as caught:
                    raise getattr(errors, name)((3, "kind"))
                self.assertEqual(getattr(caught.exception, word), (3, "kind"))

    def test_without_argument(self):
        for name, word in ATTRIBUTES.items():
            if word is None:
                with self.subTest(name), self.assertRaises(errors.WebError) as caught:
                    raise getattr(errors, name)()
                self.assertEqual(vars(caught.exception), {})


if __name__ == "__main__":
    unittest.main()
