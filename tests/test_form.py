"""The form of the package: some of what ../shared/LANGUAGE.md says, with the numbers of its rules.

What is not tested here is still required.
"""

import ast
import builtins
import re
import unittest
from pathlib import Path

PACKAGE = Path(__file__).resolve().parent.parent / "fewrules"
LIBRARY = ("__future__", "heapq", "math", "itertools", "collections")
BUILTINS = (
    "len range enumerate zip min max sum abs sorted reversed int str bool bytes list tuple dict set isinstance ord repr"
    " any all divmod pow iter next getattr hasattr setattr map super Exception ValueError TypeError KeyError IndexError"
    " LookupError ZeroDivisionError ArithmeticError OverflowError RuntimeError NotImplementedError AttributeError"
    " StopIteration NotImplemented property staticmethod classmethod type"
).split()
BARRED = re.compile(r"\b(typing|enum|Enum|Flag|Generic|Protocol|ABC|namedtuple|dataclass|register|mro|elements|law)\b")
# The examples of README.md, where they are run ahead of these tests, leave their last value under the name _.
TAKEN = [name for name in dir(builtins) if name != "_"]
AT_ONCE = "list tuple dict sorted sum any all enumerate zip min max".split()
MODULE_LEVEL = (ast.ImportFrom, ast.FunctionDef, ast.ClassDef, ast.Assign, ast.Expr)
UNUSED = (ast.Import, ast.AsyncFunctionDef, ast.AsyncFor, ast.AsyncWith, ast.Await, ast.Div, ast.MatMult)


def bound_names(tree):
    """The names of all parameters and of all targets in a tree."""
    found = [node.arg for node in ast.walk(tree) if isinstance(node, ast.arg)]
    names = [node for node in ast.walk(tree) if isinstance(node, ast.Name)]
    return found + [node.id for node in names if isinstance(node.ctx, ast.Store)]


def defined_names(tree):
    """The names of the functions, classes and values that a file itself defines."""
    found = [node.name for node in tree.body if isinstance(node, (ast.FunctionDef, ast.ClassDef))]
    return found + [node.targets[0].id for node in tree.body if isinstance(node, ast.Assign)]


def imported_names(tree):
    imports = [node for node in tree.body if isinstance(node, ast.ImportFrom)]
    return [alias.asname or alias.name for node in imports for alias in node.names]


class FormTest(unittest.TestCase):
    def setUp(self):
        self.files = sorted(path for path in PACKAGE.rglob("*") if "__pycache__" not in path.parts)
        self.texts = {path.stem: path.read_text(encoding="utf-8") for path in self.files}
        self.trees = {name: ast.parse(text) for name, text in self.texts.items()}

    def each(self, *kinds):
        """Pairs of a place and a node, for all nodes of these kinds in the package."""
        for name, tree in self.trees.items():
            for node in ast.walk(tree):
                if isinstance(node, kinds):
                    yield f"{name}.py:{getattr(node, 'lineno', '')}", node

    def test_files_and_characters(self):
        """L1, L10, L14."""
        self.assertIn("__init__", self.texts)
        for path in self.files:
            self.assertTrue(path.is_file() and re.fullmatch(r"[a-z0-9_]+\.py", path.name), path)
        for name, text in self.texts.items():
            self.assertRegex(text, r"\A[\n -~]*\n\Z", name)
            self.assertLess(text.count("\n"), 400, name)
            self.assertLessEqual(max(len(line) for line in text.split("\n")), 120, name)

    def test_functions_are_short(self):
        """L10."""
        for place, node in self.each(ast.FunctionDef):
            self.assertLessEqual(node.end_lineno - node.lineno + 1, 40, place)

    def test_module_level(self):
        """L3, L15."""
        for name, tree in self.trees.items():
            for at, node in enumerate(tree.body):
                self.assertIsInstance(node, MODULE_LEVEL, name)
                self.assertTrue(at == 0 or not isinstance(node, ast.Expr), name)
            bound = defined_names(tree) + imported_names(tree)
            self.assertEqual(len(bound), len(set(bound)), name)

    def test_imports(self):
        """L2, L16."""
        for place, node in self.each(ast.ImportFrom):
            if node.module not in LIBRARY:
                package, _, other = node.module.partition(".")
                self.assertEqual((package, node.level), ("fewrules", 0), place)
                for alias in node.names:
                    self.assertIn(alias.name, defined_names(self.trees[other]), place)
        for name, tree in self.trees.items():
            used = [node.id for node in ast.walk(tree) if isinstance(node, ast.Name)]
            for imported in imported_names(tree):
                self.assertTrue(imported in used or imported == "annotations" or name == "__init__", (name, imported))

    def test_no_two_files_import_from_each_other(self):
        """L16."""
        needed = {}
        for name, tree in self.trees.items():
            modules = [node.module for node in tree.body if isinstance(node, ast.ImportFrom)]
            needed[name] = {module.partition(".")[2] for module in modules} & set(self.trees)
        while needed:
            free = [name for name in needed if not needed[name] & set(needed)]
            self.assertTrue(free, f"these import from each other: {sorted(needed)}")
            for name in free:
                del needed[name]

    def test_builtins(self):
        """L8."""
        for place, node in self.each(ast.Name):
            if node.id in TAKEN:
                self.assertIn(node.id, BUILTINS, place)

    def test_names_that_are_bound(self):
        """L15: none of a builtin, and none of an import or a class of the file."""
        for name, tree in self.trees.items():
            classes = [node.name for node in tree.body if isinstance(node, ast.ClassDef)]
            for node in ast.walk(tree):
                if isinstance(node, (ast.FunctionDef, ast.Lambda)):
                    for bound in bound_names(node):
                        self.assertNotIn(bound, imported_names(tree) + classes, name)
            for bound in bound_names(tree) + defined_names(tree):
                self.assertNotIn(bound, TAKEN, name)

    def is_at_once(self, node):
        """Whether a call stands where what it goes over is gone through at once; else it is of another kind."""
        name = node.func.id if isinstance(node.func, ast.Name) else "." + node.func.attr
        if name not in ("range", "zip", "enumerate", "reversed", ".items", ".keys", ".values"):
            return True
        above = node.above
        if isinstance(above, (ast.For, ast.comprehension)):
            return above.iter is node
        if isinstance(above, ast.Compare):
            return isinstance(above.ops[0], (ast.In, ast.NotIn))
        fine = AT_ONCE + (["len", "reversed"] if name == "range" else [])
        return isinstance(above, ast.Call) and isinstance(above.func, ast.Name) and above.func.id in fine

    def is_set_in_place(self, node):
        """Whether a set stands behind `in` or `==`, or in sorted or len, or is kept by a name of its own."""
        above = node.above
        if isinstance(above, ast.Call):
            return isinstance(above.func, ast.Name) and above.func.id in ("sorted", "len") and not above.keywords
        return isinstance(above, (ast.Compare, ast.Assign))

    def test_what_is_gone_through_at_once(self):
        """L23, L24."""
        for tree in self.trees.values():
            for node in ast.walk(tree):
                for child in ast.iter_child_nodes(node):
                    child.above = node
        for place, node in self.each(ast.Call):
            self.assertTrue(self.is_at_once(node), place)
            if isinstance(node.func, ast.Name) and node.func.id in ("set", "frozenset"):
                self.assertTrue(self.is_set_in_place(node), place)
        for place, node in self.each(ast.Set, ast.SetComp):
            self.assertTrue(self.is_set_in_place(node), place)

    def test_what_is_not_used(self):
        """L6, L7, L17, L20."""
        for place, node in self.each(*UNUSED):
            self.fail((place, node))
        for place, node in self.each(ast.Constant):
            self.assertNotIsInstance(node.value, (float, complex), place)
        for place, node in self.each(ast.Compare):
            if isinstance(node.ops[0], (ast.Is, ast.IsNot)):
                self.assertIsInstance(node.comparators[0], ast.Constant, place)
        for name, text in self.texts.items():
            self.assertNotRegex(text, BARRED, name)
