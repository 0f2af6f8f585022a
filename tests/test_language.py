"""Those rules of ../shared/LANGUAGE.md that can be seen at a glance, for all files of the package."""

import ast
import builtins
import os
import re
import unittest
import warnings

PACKAGE = os.path.join(os.path.dirname(os.path.dirname(os.path.abspath(__file__))), "leastlooks")
CALLED = """len range enumerate zip min max sum abs sorted reversed int str bool list tuple dict set isinstance ord repr
    any all divmod iter next property classmethod staticmethod super ValueError KeyError NotImplemented""".split()
DOUBLE = """init eq str len call iter contains and or xor invert lt le gt ge add sub mul getitem setitem bool""".split()
# The doctest of README.md leaves a `_` among the builtins, which is none of them.
BUILTIN = [name for name in vars(builtins) if name != "_"]
# What is taken from Python's own library.
LIBRARY = {"math": ["gcd", "lcm"]}
# The methods of Python's own values that are called.
METHODS = "append count extend find get index isalnum items join pop replace values".split()
BARRED = """type typing enum Enum namedtuple dataclass overload contextmanager abstractmethod register mro elements open
    input law os exec eval compile id dir vars help exit quit globals locals""".split()


def files():
    return sorted(name for name in os.listdir(PACKAGE) if name != "__pycache__")


def text_of(name):
    with open(os.path.join(PACKAGE, name), encoding="utf-8", newline="") as file:
        return file.read()


def bound(tree):
    """The names that a file gives to functions, classes, parameters and variables."""
    for node in ast.walk(tree):
        if isinstance(node, (ast.FunctionDef, ast.ClassDef)):
            yield node.name
        elif isinstance(node, ast.arg):
            yield node.arg
        elif isinstance(node, ast.Name) and isinstance(node.ctx, ast.Store):
            yield node.id


class Language(unittest.TestCase):
    def setUp(self):
        self.trees = {name: ast.parse(text_of(name)) for name in files()}

    def nodes(self, *kinds):
        for name, tree in self.trees.items():
            for node in ast.walk(tree):
                if isinstance(node, kinds):
                    yield node, f"{name}:{getattr(node, 'lineno', 0)}"

    def test_files_characters_and_sizes(self):
        for name in files():
            self.assertRegex(name, r"^[a-z_]+\.py$")
            text = text_of(name)
            self.assertEqual(set(re.findall("[^ -~\n]", text)), set(), name)
            rows = text.split("\n")
            self.assertLess(len(rows), 400, name)
            self.assertLessEqual(max(len(row) for row in rows), 120, name)
        for node, place in self.nodes(ast.FunctionDef):
            self.assertLessEqual(node.end_lineno - node.lineno + 1, 40, place)

    def test_what_stands_at_module_level(self):
        for name, tree in self.trees.items():
            for at, node in enumerate(tree.body):
                docstring = at == 0 and isinstance(node, ast.Expr)
                self.assertTrue(docstring or isinstance(
                    node, (ast.ImportFrom, ast.FunctionDef, ast.ClassDef, ast.Assign)), f"{name}:{node.lineno}")

    def test_imports(self):
        for node, place in self.nodes(ast.Import, ast.ImportFrom):
            self.assertIsInstance(node, ast.ImportFrom, place)
            if node.module in LIBRARY:
                for one in node.names:
                    self.assertIsNone(one.asname, place)
                    self.assertIn(one.name, LIBRARY[node.module], place)
                continue
            self.assertTrue(node.module.startswith("leastlooks."), place)
            defined = self.trees[node.module.split(".")[1] + ".py"].body
            names = [one.name for one in defined if isinstance(one, (ast.FunctionDef, ast.ClassDef))]
            names += [one.targets[0].id for one in defined if isinstance(one, ast.Assign)]
            for one in node.names:
                self.assertIsNone(one.asname, place)
                self.assertIn(one.name, names, place)

    def test_statements_and_expressions(self):
        kinds = (ast.Global, ast.AsyncFunctionDef, ast.Await, ast.Div, ast.GeneratorExp, ast.Set, ast.Mod, ast.Pow)
        for _, place in self.nodes(*kinds):
            self.fail(place)
        for node, place in self.nodes(ast.Constant):
            self.assertNotIsInstance(node.value, (float, complex, bytes), place)
            if isinstance(node.value, str):
                self.assertNotIn("%", node.value, place)
        for node, place in self.nodes(ast.Compare):
            for sign, right in zip(node.ops, node.comparators):
                if isinstance(sign, (ast.Is, ast.IsNot)):
                    self.assertIsNone(right.value, place)

    def test_tries(self):
        for node, place in self.nodes(ast.Try):
            self.assertEqual([len(node.handlers), len(node.orelse)], [0, 0], place)
            for one in node.finalbody:
                self.assertIsInstance(one, ast.Assign, place)
                inner = [part for part in ast.walk(one) if not isinstance(part, (ast.Load, ast.Store))]
                for part in inner:
                    self.assertIsInstance(part, (ast.Assign, ast.Tuple, ast.Attribute, ast.Name), place)

    def test_generators(self):
        for name, tree in self.trees.items():
            whole = [one for one in tree.body if isinstance(one, ast.FunctionDef)]
            found = [node for node in ast.walk(tree) if isinstance(node, (ast.Yield, ast.YieldFrom))]
            within = [node for one in whole for node in ast.walk(one) if isinstance(node, (ast.Yield, ast.YieldFrom))]
            self.assertEqual(found, within, name)

    def test_what_is_iterated_at_once(self):
        for node, place in self.nodes(ast.Assign, ast.Return):
            if isinstance(node.value, ast.Call):
                called = node.value.func
                name = called.id if isinstance(called, ast.Name) else getattr(called, "attr", "")
                self.assertNotIn(name, ("zip", "enumerate", "reversed", "range", "items", "keys", "values"), place)

    def test_calls(self):
        for node, place in self.nodes(ast.Call):
            self.assertIsInstance(node.func, (ast.Name, ast.Attribute), place)
            if node.keywords:
                # A set stands in `sorted` without keywords.
                for one in node.args:
                    self.assertNotIsInstance(one, (ast.Set, ast.SetComp), place)
                    if isinstance(one, ast.Call) and isinstance(one.func, ast.Name):
                        self.assertNotEqual(one.func.id, "set", place)

    def test_attributes(self):
        own = [node.name for node, _ in self.nodes(ast.FunctionDef)]
        own += [node.attr for node, _ in self.nodes(ast.Attribute) if isinstance(node.ctx, ast.Store)]
        for node, place in self.nodes(ast.Attribute):
            self.assertIn(node.attr, own + METHODS, place)
            if isinstance(node.ctx, ast.Store):
                self.assertIsInstance(node.value, ast.Name, place)
                self.assertNotIn(node.attr, "append extend items pop replace values".split(), place)

    def test_lambdas(self):
        rows = [place for _, place in self.nodes(ast.Lambda)]
        self.assertEqual(sorted(set(rows)), sorted(rows))

    def test_no_warnings(self):
        for name in files():
            with warnings.catch_warnings():
                warnings.simplefilter("error")
                compile(text_of(name), name, "exec")

    def test_no_file_imports_itself_through_others(self):
        above = {}
        for name, tree in self.trees.items():
            above[name] = {node.module.split(".")[1] + ".py" for node in tree.body
                           if isinstance(node, ast.ImportFrom) and node.module not in LIBRARY}
        while above:
            free = [name for name in above if not above[name] & set(above)]
            self.assertNotEqual(free, [], sorted(above))
            for name in free:
                del above[name]

    def test_classes(self):
        for node, place in self.nodes(ast.FunctionDef, ast.ClassDef):
            names = [one.id for one in node.decorator_list]
            self.assertLessEqual(set(names), {"property", "classmethod", "staticmethod"}, place)
            if node.name.startswith("__"):
                self.assertIn(node.name.strip("_"), DOUBLE, place)

    def test_names(self):
        for name, tree in self.trees.items():
            names = list(bound(tree))
            taken = [one.name for node in tree.body if isinstance(node, ast.ImportFrom) for one in node.names]
            for one in names:
                self.assertNotIn(one, taken, name)
                self.assertNotIn(one, BARRED, name)
                self.assertNotIn(one, BUILTIN, name)
        for node, place in self.nodes(ast.Name):
            if isinstance(node.ctx, ast.Load) and node.id in BUILTIN:
                self.assertIn(node.id, CALLED, place)
