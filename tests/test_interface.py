"""The interface: its names and arguments, each defined in the file under which it is listed."""

import ast
import unittest
from pathlib import Path

PACKAGE = Path(__file__).resolve().parent.parent / "pilepass"

FUNCTIONS = {
    "webs": {
        "web_error": ["value"], "ties": ["web"], "results": ["web"], "leads": ["web", "one", "other"],
        "meaning": ["web", "worths"], "beside": ["web", "other"], "renumbered": ["web", "value"],
    },
    "blocks": {"parts": ["web"], "blocks": ["web"], "shared_steps": ["web"], "row_of": ["web", "block"]},
    "orders": {
        "order_error": ["web", "value"], "order_of": ["web"], "orders": ["web"], "can_begin": ["web", "value"],
        "order_count": ["web"],
    },
    "bars": {"bar": ["web"], "bar_holds": ["web", "value"]},
    "heights": {
        "heights": ["web", "order"], "least_height": ["web"], "greatest_height": ["web"], "lowest_order": ["web"],
    },
    "piles": {
        "program": ["web", "order"], "program_error": ["web", "value"], "run": ["web", "value", "worths"],
        "is_plain": ["web", "value"],
    },
    "queues": {
        "queue_error": ["web", "value"], "queue_order_of": ["web"], "queue_orders": ["web"], "queue_count": ["web"],
        "queue_program": ["web", "order"], "run_queue": ["web", "value", "worths"],
    },
    "texts": {"web_text": ["web"], "read_web": ["value"]},
}
CLASSES = {
    "errors": {
        "WebError": [], "BadWeb": ["error"], "BadOrder": [], "TooMany": [], "Short": ["index"], "Left": ["many"],
        "NoOrder": [], "Barred": ["bar"], "Full": [], "Used": ["value"], "NothingToUndo": [],
        "NothingToRedo": [], "BadText": ["line"], "NoStep": ["value"],
    },
}
LOOM = {
    "__init__": ["web"], "web": [], "version": [], "first_order": [], "first_bar": [], "how_many": [],
    "add": ["value"], "drop": ["value"], "turn": ["step", "value"], "tie": ["step", "place", "value"], "undo": [],
    "redo": [], "run": ["worths"], "twin": [], "__len__": [], "__getitem__": ["step"], "__contains__": ["value"],
    "__eq__": ["other"], "__iter__": [],
}
NAMES = {"bounds": ["MAX_STEPS", "MAX_COPIES", "MAX_EDITS"]}


def body_of(name):
    return ast.parse((PACKAGE / f"{name}.py").read_text(encoding="utf-8")).body


def arguments(function):
    return [item.arg for item in function.args.args]


class InterfaceTest(unittest.TestCase):

    def test_functions(self):
        for name, functions in FUNCTIONS.items():
            found = {item.name: arguments(item) for item in body_of(name) if isinstance(item, ast.FunctionDef)}
            for function, names in functions.items():
                with self.subTest(f"{name}.{function}"):
                    self.assertEqual(found.get(function), names)

    def test_classes(self):
        for name, classes in CLASSES.items():
            found = {item.name: item for item in body_of(name) if isinstance(item, ast.ClassDef)}
            for word, names in classes.items():
                with self.subTest(f"{name}.{word}"):
                    self.assertIn(word, found)
                    made = [item for item in found[word].body if isinstance(item, ast.FunctionDef)]
                    self.assertEqual([arguments(item) for item in made], [["self", *names]] if names else [])

    def test_looms(self):
        found = {item.name: item for item in body_of("looms") if isinstance(item, ast.ClassDef)}
        made = {item.name: arguments(item) for item in found["Loom"].body if isinstance(item, ast.FunctionDef)}
        for word, names in LOOM.items():
            with self.subTest(word):
                self.assertEqual(made.get(word), ["self", *names])
        made = {item.name: arguments(item) for item in found["PileLoom"].body if isinstance(item, ast.FunctionDef)}
        self.assertEqual(made["__init__"], ["self", "web"])
        self.assertEqual([base.id for base in found["PileLoom"].bases], ["Loom"])
        self.assertEqual(found["Loom"].bases, [])

    def test_generators(self):
        for name, word in (("orders", "orders"), ("queues", "queue_orders")):
            function = [item for item in body_of(name) if getattr(item, "name", None) == word][0]
            self.assertTrue(any(isinstance(node, (ast.Yield, ast.YieldFrom)) for node in ast.walk(function)))

    def test_names(self):
        for name, words in NAMES.items():
            found = [item.targets[0].id for item in body_of(name) if isinstance(item, ast.Assign)]
            for word in words:
                self.assertIn(word, found)


if __name__ == "__main__":
    unittest.main()
