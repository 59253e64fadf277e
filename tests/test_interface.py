"""The interface of DOC.md, and the form of the package's files."""

import ast
import builtins
import importlib
import inspect
import os
import unittest

import readyfire
from readyfire.boards import Board

FOLDER = os.path.dirname(readyfire.__file__)
CLASSES = {
    "readyfire.errors": (
        "FireError", "NoPlan", "NoTurn", "NoPlace", "NoValue", "TokenThere",
        "NoStep", "Fired", "NotReady", "IsReady", "NoText",
    ),
    "readyfire.boards": ("Board",),
}
FUNCTIONS = {
    "readyfire.rules": {"is_value": ["thing"], "outcome": ["rule", "values", "many"]},
    "readyfire.plans": {"is_plan": ["plan"], "outside": ["plan"]},
    "readyfire.boards": {"run": ["board"]},
    "readyfire.stuck": {"waiting": ["board"], "why": ["board", "name", "turn"]},
    "readyfire.texts": {"shown": ["plan"], "read": ["text"]},
}
METHODS = {
    "__init__": ["self", "plan", "turns"],
    "put": ["self", "place", "turn", "value"],
    "fire": ["self", "name", "turn"],
    "at": ["self", "place", "turn"],
    "told": ["self", "place"],
    "ready": ["self"],
    "fired": ["self"],
}
# No clock, no chance, no files: the package calls no more of Python's own than these.
BUILTINS = (
    "ValueError", "all", "any", "enumerate", "int", "isinstance", "bool", "len", "list", "max", "min", "range",
    "set", "sorted", "str", "sum", "tuple", "zip",
)


def package_files():
    return [name for name in sorted(os.listdir(FOLDER)) if name != "__pycache__"]


def source_of(name):
    with open(os.path.join(FOLDER, name), "rb") as file:
        return file.read().decode("ascii")


class InterfaceTest(unittest.TestCase):
    def test_each_class_is_defined_in_its_file(self):
        for module, names in CLASSES.items():
            for name in names:
                with self.subTest(name):
                    found = getattr(importlib.import_module(module), name)
                    self.assertTrue(inspect.isclass(found))
                    self.assertEqual(found.__module__, module)

    def test_each_function_is_defined_in_its_file_with_its_arguments(self):
        for module, functions in FUNCTIONS.items():
            for name, arguments in functions.items():
                with self.subTest(name):
                    found = getattr(importlib.import_module(module), name)
                    self.assertTrue(inspect.isfunction(found))
                    self.assertEqual(found.__module__, module)
                    self.assertEqual(list(inspect.signature(found).parameters), arguments)


    def test_each_method_is_defined_in_its_class_with_its_arguments(self):
        for name, arguments in METHODS.items():
            with self.subTest(name):
                found = Board.__dict__[name]
                self.assertTrue(inspect.isfunction(found))
                self.assertEqual(list(inspect.signature(found).parameters), arguments)


class FormTest(unittest.TestCase):
    def test_the_folder_holds_nothing_but_python_files(self):
        for name in package_files():
            with self.subTest(name):
                self.assertTrue(name.endswith(".py"))

    def test_files_and_lines_are_short(self):
        for name in package_files():
            rows = source_of(name).split("\n")
            with self.subTest(name):
                self.assertLessEqual(len(rows), 399)
                self.assertLessEqual(max(len(row) for row in rows), 120)
                self.assertNotIn("\t", "".join(rows))

    def test_functions_are_short(self):
        for name in package_files():
            for node in ast.walk(ast.parse(source_of(name))):
                if isinstance(node, ast.FunctionDef):
                    with self.subTest(file=name, function=node.name):
                        self.assertLessEqual(node.end_lineno - node.lineno + 1, 40)

    def test_imports_are_from_the_package(self):
        for name in package_files():
            for node in ast.walk(ast.parse(source_of(name))):
                with self.subTest(name):
                    self.assertNotIsInstance(node, ast.Import)
                    if isinstance(node, ast.ImportFrom):
                        self.assertEqual(node.level, 0)
                        self.assertTrue(node.module.startswith("readyfire."))

    def test_no_more_of_pythons_own_is_used_than_listed(self):
        for name in package_files():
            for node in ast.walk(ast.parse(source_of(name))):
                if isinstance(node, ast.Name) and hasattr(builtins, node.id):
                    with self.subTest(name):
                        self.assertIn(node.id, BUILTINS)


if __name__ == "__main__":
    unittest.main()
