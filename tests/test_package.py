"""The interface, and those rules of the language that the code itself shows."""

import ast
import builtins
import importlib
import inspect
import pathlib
import unittest

import votewoods
from interface import DESK, INTERFACE
from votewoods.desks import Desk

FOLDER = pathlib.Path(votewoods.__file__).parent
FILES = sorted(FOLDER.glob("*.py"))

BUILTINS = """len range enumerate zip min max sum abs sorted reversed int str bool list tuple dict set isinstance ord
    repr any all divmod ValueError KeyError IndexError""".split()
OTHER_BUILTINS = [name for name in dir(builtins) if name not in BUILTINS]
CONSTANTS = ("True", "False", "None")
METHODS = """append clear copy count endswith extend find get index insert isalnum isalpha isdigit islower isspace
    isupper items join keys ljust lower lstrip partition pop remove replace reverse rfind rjust rpartition rsplit
    rstrip setdefault split splitlines startswith strip update upper values zfill bit_length""".split()
LIBRARY = {"math": ["gcd", "lcm", "isqrt"], "itertools": ["product", "combinations", "permutations"]}
NO_NAMES = ["register", "mro", "elements", "open", "input", "law", "version_info", "with_traceback", "add_note"]
NO_NODES = (ast.AsyncFunctionDef, ast.Await, ast.Global, ast.Div)


SPECIAL = ["__init__", "__eq__", "__len__"]


def assigned(tree):
    """The names of the attributes that the methods assign."""
    return [node.attr for node in ast.walk(tree)
            if isinstance(node, ast.Attribute) and not isinstance(node.ctx, ast.Load)]


def trees():
    return [(path, ast.parse(path.read_text(encoding="utf-8"))) for path in FILES]


class Interface(unittest.TestCase):
    def test_init_defines_no_names(self):
        tree = ast.parse((FOLDER / "__init__.py").read_text(encoding="utf-8"))
        self.assertEqual([node for node in tree.body if not isinstance(node, ast.Expr)], [])

    def test_functions_are_defined_where_they_are_listed(self):
        for name, functions in INTERFACE.items():
            module = importlib.import_module("votewoods." + name)
            for function, parameters in functions.items():
                with self.subTest(function=function):
                    found = getattr(module, function)
                    self.assertTrue(inspect.isfunction(found))
                    self.assertEqual(found.__module__, "votewoods." + name)
                    self.assertEqual(list(inspect.signature(found).parameters), parameters)

    def test_all_parameters_are_positional(self):
        positional = (inspect.Parameter.POSITIONAL_ONLY, inspect.Parameter.POSITIONAL_OR_KEYWORD)
        for name, functions in INTERFACE.items():
            module = importlib.import_module("votewoods." + name)
            for function in functions:
                for parameter in inspect.signature(getattr(module, function)).parameters.values():
                    self.assertIn(parameter.kind, positional)
                    self.assertIs(parameter.default, inspect.Parameter.empty)

    def test_methods_are_defined_in_the_class_itself(self):
        self.assertEqual(Desk.__module__, "votewoods.desks")
        for name, parameters in DESK.items():
            with self.subTest(method=name):
                found = vars(Desk)[name]
                self.assertTrue(inspect.isfunction(found))
                self.assertEqual(list(inspect.signature(found).parameters), parameters)
                for parameter in inspect.signature(found).parameters.values():
                    self.assertIs(parameter.kind, inspect.Parameter.POSITIONAL_OR_KEYWORD)
                    self.assertIs(parameter.default, inspect.Parameter.empty)


class Language(unittest.TestCase):
    def test_the_folder_contains_python_files_only(self):
        found = [path.name for path in FOLDER.iterdir() if path.name != "__pycache__"]
        self.assertEqual(sorted(found), [path.name for path in FILES])
        self.assertEqual([name for name in found if name != name.lower()], [])

    def test_sizes_and_characters(self):
        for path in FILES:
            text = path.read_text(encoding="utf-8")
            lines = text.splitlines()
            with self.subTest(path=path.name):
                self.assertLessEqual(len(lines), 399)
                self.assertEqual([line for line in lines if len(line) > 120], [])
                self.assertEqual([sign for sign in text if sign != "\n" and not " " <= sign <= "~"], [])

    def test_sizes_of_functions(self):
        for path, tree in trees():
            for node in ast.walk(tree):
                if isinstance(node, ast.FunctionDef):
                    with self.subTest(path=path.name, function=node.name):
                        self.assertLessEqual(node.end_lineno - node.lineno + 1, 40)
                        self.assertEqual(node.decorator_list, [])

    def test_imports(self):
        for path, tree in trees():
            for node in ast.walk(tree):
                self.assertNotIsInstance(node, ast.Import)
                if isinstance(node, ast.ImportFrom):
                    with self.subTest(path=path.name, module=node.module):
                        self.assertIn(node, tree.body)
                        self.assertEqual(node.level, 0)
                        names = [alias.name for alias in node.names]
                        self.assertEqual([alias.asname for alias in node.names], [None] * len(names))
                        if node.module in LIBRARY:
                            self.assertEqual([name for name in names if name not in LIBRARY[node.module]], [])
                        else:
                            self.assert_defined_in(node.module, names)

    def assert_defined_in(self, module, names):
        self.assertTrue(module.startswith("votewoods."))
        tree = ast.parse((FOLDER / (module.partition(".")[2] + ".py")).read_text(encoding="utf-8"))
        defined = [node.name for node in tree.body if isinstance(node, (ast.FunctionDef, ast.ClassDef))]
        defined += [node.targets[0].id for node in tree.body if isinstance(node, ast.Assign)]
        self.assertEqual([name for name in names if name not in defined], [])

    def test_no_imports_in_a_circle(self):
        needs = {}
        for path, tree in trees():
            found = [node.module for node in tree.body if isinstance(node, ast.ImportFrom)]
            needs["votewoods." + path.stem] = [name for name in found if name.startswith("votewoods.")]
        while needs:
            free = [name for name in needs if not any(need in needs for need in needs[name])]
            self.assertTrue(free, needs)
            for name in free:
                del needs[name]

    def test_names(self):
        for path, tree in trees():
            imported = [alias.name for node in tree.body if isinstance(node, ast.ImportFrom) for alias in node.names]
            classes = [node.name for node in tree.body if isinstance(node, ast.ClassDef)]
            with self.subTest(path=path.name):
                bound = [node.id for node in ast.walk(tree)
                         if isinstance(node, ast.Name) and not isinstance(node.ctx, ast.Load)]
                bound += [node.arg for node in ast.walk(tree) if isinstance(node, ast.arg)]
                defined = [node.name for node in ast.walk(tree) if isinstance(node, (ast.FunctionDef, ast.ClassDef))]
                for name in bound:
                    self.assertNotIn(name, imported + classes)
                for name in bound + defined:
                    self.assertNotIn(name, NO_NAMES + BUILTINS + OTHER_BUILTINS)
                read = [node.id for node in ast.walk(tree) if isinstance(node, ast.Name)]
                self.assertEqual([name for name in read if name in OTHER_BUILTINS and name not in CONSTANTS], [])

    def test_classes(self):
        for path, tree in trees():
            for node in ast.walk(tree):
                if isinstance(node, ast.ClassDef):
                    with self.subTest(path=path.name, name=node.name):
                        methods = [one for one in node.body if isinstance(one, ast.FunctionDef)]
                        self.assertEqual(node.body[1:], methods)
                        self.assertEqual(node.decorator_list + node.keywords, [])
                        names = [one.name for one in methods]
                        self.assertEqual(len(names), len(set(names)))
                        marked = [name for name in names if name.startswith("__")]
                        self.assertEqual([name for name in marked if name not in SPECIAL], [])
                        self.assertEqual([name for name in assigned(node) if name in names + METHODS], [])

    def test_statements_values_and_methods(self):
        own = [one.name for _, tree in trees() for node in ast.walk(tree) if isinstance(node, ast.ClassDef)
               for one in node.body if isinstance(one, ast.FunctionDef) and one.name not in SPECIAL]
        own += [name for _, tree in trees() for name in assigned(tree)]
        for path, tree in trees():
            for node in ast.walk(tree):
                with self.subTest(path=path.name, line=getattr(node, "lineno", 0)):
                    self.assertNotIsInstance(node, NO_NODES)
                    if isinstance(node, ast.Constant):
                        self.assertNotIsInstance(node.value, (float, complex))
                        self.assertNotIn("%", str(node.value))
                    if isinstance(node, ast.Attribute):
                        self.assertIn(node.attr, METHODS + own)

    def test_module_level(self):
        for path, tree in trees():
            names = []
            for node in tree.body:
                with self.subTest(path=path.name, line=node.lineno):
                    if isinstance(node, ast.Assign):
                        self.assertIsInstance(node.value, ast.Constant)
                        names += [target.id for target in node.targets]
                    elif isinstance(node, (ast.FunctionDef, ast.ClassDef)):
                        names.append(node.name)
                    elif isinstance(node, ast.Expr):
                        self.assertIs(node, tree.body[0])
                    else:
                        self.assertIsInstance(node, ast.ImportFrom)
            self.assertEqual(len(names), len(set(names)))
