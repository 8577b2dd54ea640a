"""Those rules of LANGUAGE.md that can be told from the files alone, in short."""

import ast
import builtins
import unittest
from pathlib import Path

PACKAGE = Path(__file__).resolve().parent.parent / "pilepass"
FILES = {path.name: path.read_text(encoding="utf-8") for path in sorted(PACKAGE.rglob("*.py"))}
TREES = {name: ast.parse(text) for name, text in FILES.items()}

LIBRARY = {
    "heapq": ("heappush", "heappop", "heapify", "heapreplace", "heappushpop"),
    "math": ("gcd", "lcm", "isqrt", "comb", "perm", "factorial"),
    "itertools": ("product", "combinations", "permutations", "chain", "accumulate", "pairwise", "islice",
                  "zip_longest"),
    "collections": ("defaultdict", "deque"),
}
BUILTINS = set("""
    len range enumerate zip min max sum abs sorted reversed int str bool list tuple dict set isinstance ord repr
    any all divmod map iter next type ValueError TypeError KeyError IndexError LookupError ZeroDivisionError
    NotImplemented StopIteration property staticmethod classmethod super
""".split())
METHODS = set("""
    append clear copy count endswith extend find get index insert isalnum isalpha isdigit islower isspace isupper
    items join keys ljust lower lstrip partition pop remove replace reverse rfind rjust rpartition rsplit rstrip
    setdefault split splitlines startswith strip update upper values zfill bit_length add discard isascii
    removeprefix removesuffix __init__
""".split())
NAMES_NOT_USED = set("""
    mro elements open input law version_info with_traceback add_note register attrgetter breakpoint builtins compile
    delattr dir eval exec exit gc globals help importlib locals methodcaller os vars typing enum sys
""".split())
# The double-underscore methods of the package's only class with operators, and what its errors and others have.
DOUBLE = {"__init__", "__len__", "__getitem__", "__contains__", "__iter__", "__eq__"}
STATEMENTS_OF_A_MODULE = (ast.Expr, ast.ImportFrom, ast.FunctionDef, ast.ClassDef, ast.Assign)
NOT_ALLOWED = (
    ast.AsyncFunctionDef, ast.AsyncFor, ast.AsyncWith, ast.Await, ast.Import, ast.Global, ast.Div, ast.MatMult,
)


def nodes(*kinds):
    """The nodes of these kinds in all files, each with the place to tell of it."""
    for name, tree in TREES.items():
        for node in ast.walk(tree):
            if isinstance(node, kinds):
                yield f"{name}:{getattr(node, 'lineno', 0)}", node


class LanguageTest(unittest.TestCase):

    def test_folder_holds_plain_files_only(self):
        found = [path.name for path in PACKAGE.iterdir() if path.name != "__pycache__"]
        self.assertEqual(sorted(found), sorted(FILES))
        self.assertIn("__init__.py", found)

    def test_sizes_and_characters(self):
        for name, text in FILES.items():
            lines = text.split("\n")
            self.assertLessEqual(len(lines), 399, name)
            for at, line in enumerate(lines, 1):
                self.assertLessEqual(len(line), 120, f"{name}:{at}")
                self.assertTrue(all(" " <= sign <= "~" for sign in line), f"{name}:{at}")
        for place, node in nodes(ast.FunctionDef):
            self.assertLessEqual(node.end_lineno - node.lineno + 1, 40, place)

    def test_module_level(self):
        for name, tree in TREES.items():
            for node in tree.body:
                self.assertIsInstance(node, STATEMENTS_OF_A_MODULE, f"{name}:{node.lineno}")

    def test_imports(self):
        own = {f"pilepass.{name[:-3]}" for name in FILES}
        for place, node in nodes(ast.ImportFrom):
            names = [item.name for item in node.names]
            if node.module in own:
                defined = [item.name for item in TREES[f"{node.module[9:]}.py"].body if hasattr(item, "name")]
                defined += [item.targets[0].id for item in TREES[f"{node.module[9:]}.py"].body
                            if isinstance(item, ast.Assign)]
                self.assertLessEqual(set(names), set(defined), place)
            else:
                self.assertIn(node.module, LIBRARY, place)
                self.assertLessEqual(set(names), set(LIBRARY[node.module]), place)
            self.assertTrue(all(item.asname is None for item in node.names), place)

    def test_nothing_that_is_not_allowed(self):
        for place, node in nodes(*NOT_ALLOWED):
            self.fail(f"{place}: {node}")
        for place, node in nodes(ast.Constant):
            self.assertNotIsInstance(node.value, (float, complex), place)
            if isinstance(node.value, str) and node.value != ast.get_docstring(TREES[place.split(":")[0]], False):
                self.assertNotIn("%", node.value, place)

    def test_builtins(self):
        for place, node in nodes(ast.Name):
            if isinstance(node.ctx, ast.Load):
                self.assertFalse(hasattr(builtins, node.id) and node.id not in BUILTINS, f"{place}: {node.id}")
            else:
                self.assertFalse(hasattr(builtins, node.id), f"{place}: {node.id}")
        for place, node in nodes(ast.arg):
            self.assertFalse(hasattr(builtins, node.arg), f"{place}: {node.arg}")

    def test_methods(self):
        own = {node.name for _, node in nodes(ast.FunctionDef)}
        for place, node in nodes(ast.Call):
            if isinstance(node.func, ast.Attribute):
                self.assertIn(node.func.attr, METHODS | own, place)

    def test_names_that_are_not_used(self):
        for place, node in nodes(ast.Name, ast.arg, ast.Attribute, ast.FunctionDef, ast.ClassDef):
            names = [getattr(node, word, None) for word in ("id", "arg", "attr", "name")]
            self.assertFalse(NAMES_NOT_USED & set(names), place)

    def test_generators_are_iterated_at_once(self):
        generators = {
            function.name for _, function in nodes(ast.FunctionDef)
            if any(isinstance(node, (ast.Yield, ast.YieldFrom)) for node in ast.walk(function))
        }
        self.assertIn("orders", generators)
        iterated = [node.iter for _, node in nodes(ast.For, ast.comprehension)]
        iterated += [node.value for _, node in nodes(ast.YieldFrom)]
        for place, node in nodes(ast.Call):
            if isinstance(node.func, ast.Name) and node.func.id in generators:
                self.assertIn(node, iterated, place)
        for place, node in nodes(ast.GeneratorExp):
            self.fail(f"{place}: a list says the same")

    def test_is(self):
        for place, node in nodes(ast.Compare):
            for sign, side in zip(node.ops, node.comparators):
                if isinstance(sign, (ast.Is, ast.IsNot)):
                    self.assertTrue(isinstance(side, ast.Constant) or is_kind(node.left) and is_kind(side), place)

    def test_type_stands_beside_is_only(self):
        beside = [side for _, node in nodes(ast.Compare) if isinstance(node.ops[0], ast.Is)
                  for side in (node.left, *node.comparators)]
        names = [side.func for side in beside if is_kind(side)]
        for place, node in nodes(ast.Name):
            self.assertTrue(node.id != "type" or node in names, place)

    def test_modules_do_not_import_each_other(self):
        imports = {
            name: [f"{node.module[9:]}.py" for node in tree.body
                   if isinstance(node, ast.ImportFrom) and node.module.startswith("pilepass.")]
            for name, tree in TREES.items()
        }
        done = []
        while len(done) < len(imports):
            ready = [name for name in imports if name not in done and set(imports[name]) <= set(done)]
            self.assertTrue(ready, sorted(set(imports) - set(done)))
            done += ready

    def test_no_local_name_is_that_of_an_import_or_a_class_of_its_file(self):
        for name, tree in TREES.items():
            bound = {item.name for node in tree.body if isinstance(node, ast.ImportFrom) for item in node.names}
            bound |= {node.name for node in tree.body if isinstance(node, ast.ClassDef)}
            for node in ast.walk(tree):
                local = node.id if isinstance(node, ast.Name) and not isinstance(node.ctx, ast.Load) else None
                local = node.arg if isinstance(node, ast.arg) else local
                self.assertNotIn(local, bound, f"{name}:{getattr(node, 'lineno', 0)}")

    def test_a_property_without_a_setter_has_a_name_that_is_assigned_nowhere(self):
        properties = {
            function.name for _, function in nodes(ast.FunctionDef)
            if any(getattr(item, "id", None) == "property" for item in function.decorator_list)
        }
        self.assertEqual(properties, {"web", "version"})
        for place, node in nodes(ast.Attribute):
            self.assertFalse(node.attr in properties and isinstance(node.ctx, ast.Store), place)

    def test_names_with_underscores(self):
        for place, node in nodes(ast.FunctionDef):
            self.assertTrue(not node.name.startswith("__") or node.name in DOUBLE, place)
        for place, node in nodes(ast.Name):
            self.assertTrue(node.id != "_" or isinstance(node.ctx, ast.Store), place)

    def test_no_products_beside_a_class_that_is_iterated_over(self):
        for place, node in nodes(ast.ImportFrom):
            self.assertNotEqual(node.module, "itertools", place)

    def test_sets_and_sorting(self):
        for place, node in nodes(ast.Set, ast.SetComp):
            self.fail(f"{place}: a list or a mask says the same")
        for place, node in nodes(ast.Call):
            word = getattr(node.func, "attr", None) or getattr(node.func, "id", None)
            self.assertNotIn(word, ("set", "frozenset", "sort"), place)
            if word == "reversed":
                self.assertEqual(node.args[0].func.id, "list", place)


def is_kind(node):
    """Whether this is type(x)."""
    return isinstance(node, ast.Call) and getattr(node.func, "id", None) == "type" and len(node.args) == 1


if __name__ == "__main__":
    unittest.main()
