"""Those rules of ../shared/LANGUAGE.md that can be seen at a glance, for all files of the package."""

import ast
import builtins
import os
import re
import unittest

PACKAGE = os.path.join(os.path.dirname(os.path.dirname(os.path.abspath(__file__))), "leastlooks")
CALLED = """len range enumerate zip min max sum abs sorted reversed int str bool list tuple dict set isinstance ord repr
    any all divmod iter next property classmethod staticmethod super ValueError KeyError NotImplemented""".split()
DOUBLE = """init eq str len call iter contains and or xor invert lt le gt ge add sub mul getitem setitem bool""".split()
# The doctest of README.md leaves a `_` among the builtins, which is none of them.
BUILTIN = [name for name in vars(builtins) if name != "_"]
# What is taken from Python's own library.
LIBRARY = {"math": ["gcd", "lcm"]}
BARRED = """type typing enum Enum namedtuple dataclass overload contextmanager abstractmethod register mro elements open
    input law os exec eval compile id dir vars help exit quit globals locals""".split()


def files():
    return sorted(name for name in os.listdir(PACKAGE) if name != "__pycache__")


def text_of(name):
    with open(os.path.join(PACKAGE, name), encoding="utf-8", newline="") as file:
        return file.read()


def bound(tree):
    """The names that a file gives to functions, classes, parameters and variables."""
    for node in ast.walk(tree):
        if isinstance(node, (ast.FunctionDef, ast.ClassDef)):
            yield node.name
        elif isinstance(node, ast.arg):
            yield node.arg
        elif isinstance(node, ast.Name) and isinstance(node.ctx, ast.Store):
            yield node.id


class Language(unittest.TestCase):
    def setUp(self):
        self.trees = {name: ast.parse(text_of(name)) for name in files()}

    def nodes(self, *kinds):
        for name, tree in self.trees.items():
            for node in ast.walk(tree):
                if isinstance(node, kinds):
                    yield node, f"{name}:{getattr(node, 'lineno', 0)}"

    def test_files_characters_and_sizes(self):
        for name in files():
            self.assertRegex(name, r"^[a-z_]+\.py$")
            text = text_of(name)
            self.assertEqual(set(re.findall("[^ -~\n]", text)), set(), name)
            rows = text.split("\n")
            self.assertLess(len(rows), 400, name)
            self.assertLessEqual(max(len(row) for row in rows), 120, name)
        for node, place in self.nodes(ast.FunctionDef):
            self.assertLessEqual(node.end_lineno - node.lineno + 1, 40, place)

    def test_what_stands_at_module_level(self):
        for name, tree in self.trees.items():
            for at, node in enumerate(tree.body):
                docstring = at == 0 and isinstance(node, ast.Expr)
                self.assertTrue(docstring or isinstance(
                    node, (ast.ImportFrom, ast.FunctionDef, ast.ClassDef, ast.Assign)), f"{name}:{node.lineno}")

    def test_imports(self):
        for node, place in self.nodes(ast.Import, ast.ImportFrom):
            self.assertIsInstance(node, ast.ImportFrom, place)
            if node.module in LIBRARY:
                for one in node.names:
                    self.assertIsNone(one.asname, place)
                    self.assertIn(one.name, LIBRARY[node.module], place)
                continue
            self.assertTrue(node.module.startswith("leastlooks."), place)
            defined = self.trees[node.module.split(".")[1] + ".py"].body
            names = [one.name for one in defined if isinstance(one, (ast.FunctionDef, ast.ClassDef))]
            names += [one.targets[0].id for one in defined if isinstance(one, ast.Assign)]
            for one in node.names:
                self.assertIsNone(one.asname, place)
                self.assertIn(one.name, names, place)

    def test_statements_and_expressions(self):
        kinds = (ast.Global, ast.AsyncFunctionDef, ast.Await, ast.Div, ast.GeneratorExp, ast.Set, ast.Mod, ast.Pow)
        for _, place in self.nodes(*kinds):
            self.fail(place)
        for node, place in self.nodes(ast.Constant):
            self.assertNotIsInstance(node.value, (float, complex, bytes), place)
            if isinstance(node.value, str):
                self.assertNotIn("%", node.value, place)
        for node, place in self.nodes(ast.Compare):
            for sign, right in zip(node.ops, node.comparators):
                if isinstance(sign, (ast.Is, ast.IsNot)):
                    self.assertIsNone(right.value, place)

    def test_classes(self):
        for node, place in self.nodes(ast.FunctionDef, ast.ClassDef):
            names = [one.id for one in node.decorator_list]
            self.assertLessEqual(set(names), {"property", "classmethod", "staticmethod"}, place)
            if node.name.startswith("__"):
                self.assertIn(node.name.strip("_"), DOUBLE, place)

    def test_names(self):
        for name, tree in self.trees.items():
            names = list(bound(tree))
            taken = [one.name for node in tree.body if isinstance(node, ast.ImportFrom) for one in node.names]
            for one in names:
                self.assertNotIn(one, taken, name)
                self.assertNotIn(one, BARRED, name)
                self.assertNotIn(one, BUILTIN, name)
        for node, place in self.nodes(ast.Name):
            if isinstance(node.ctx, ast.Load) and node.id in BUILTIN:
                self.assertIn(node.id, CALLED, place)
