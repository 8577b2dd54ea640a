"""The interface: its names and arguments, each defined in the file under which it is listed."""

import ast
import unittest
from pathlib import Path

PACKAGE = Path(__file__).resolve().parent.parent / "pilepass"

FUNCTIONS = {
    "webs": {
        "web_error": ["value"], "ties": ["web"], "results": ["web"], "leads": ["web", "one", "other"],
        "meaning": ["web", "worths"], "beside": ["web", "other"], "renumbered": ["web", "value"],
    },
    "blocks": {"parts": ["web"], "blocks": ["web"], "shared_steps": ["web"], "row_of": ["web", "block"]},
    "orders": {
        "order_error": ["web", "value"], "order_of": ["web"], "orders": ["web"], "can_begin": ["web", "value"],
        "order_count": ["web"],
    },
    "bars": {"bar": ["web"], "bar_holds": ["web", "value"]},
    "heights": {
        "heights": ["web", "order"], "least_height": ["web"], "greatest_height": ["web"], "lowest_order": ["web"],
    },
}
CLASSES = {
    "errors": {
        "WebError": [], "BadWeb": ["error"], "BadOrder": [], "TooMany": [], "Short": ["index"], "Left": ["many"],
        "NoOrder": [], "Barred": ["bar"], "Full": [], "Used": ["value"], "NothingToUndo": [],
        "NothingToRedo": [], "BadText": ["line"], "NoStep": ["value"],
    },
}
NAMES = {"bounds": ["MAX_STEPS", "MAX_COPIES", "MAX_EDITS"]}


def body_of(name):
    return ast.parse((PACKAGE / f"{name}.py").read_text(encoding="utf-8")).body


def arguments(function):
    return [item.arg for item in function.args.args]


class InterfaceTest(unittest.TestCase):

    def test_functions(self):
        for name, functions in FUNCTIONS.items():
            found = {item.name: arguments(item) for item in body_of(name) if isinstance(item, ast.FunctionDef)}
            for function, names in functions.items():
                with self.subTest(f"{name}.{function}"):
                    self.assertEqual(found.get(function), names)

    def test_classes(self):
        for name, classes in CLASSES.items():
            found = {item.name: item for item in body_of(name) if isinstance(item, ast.ClassDef)}
            for word, names in classes.items():
                with self.subTest(f"{name}.{word}"):
                    self.assertIn(word, found)
                    made = [item for item in found[word].body if isinstance(item, ast.FunctionDef)]
                    self.assertEqual([arguments(item) for item in made], [["self", *names]] if names else [])

    def test_names(self):
        for name, words in NAMES.items():
            found = [item.targets[0].id for item in body_of(name) if isinstance(item, ast.Assign)]
            for word in words:
                self.assertIn(word, found)


if __name__ == "__main__":
    unittest.main()
