"""The interface of DOC.md, and the form of the package's files."""

import ast
import importlib
import inspect
import os
import unittest

import readyfire

FOLDER = os.path.dirname(readyfire.__file__)
CLASSES = {
    "readyfire.errors": (
        "FireError", "NoPlan", "NoTurn", "NoPlace", "NoValue", "TokenThere",
        "NoStep", "Fired", "NotReady", "IsReady", "NoText",
    ),
}
FUNCTIONS = {
    "readyfire.rules": {"is_value": ["thing"], "outcome": ["rule", "values", "many"]},
    "readyfire.plans": {"is_plan": ["plan"], "outside": ["plan"]},
}


def package_files():
    return [name for name in sorted(os.listdir(FOLDER)) if name != "__pycache__"]


def source_of(name):
    with open(os.path.join(FOLDER, name), "rb") as file:
        return file.read().decode("ascii")


class InterfaceTest(unittest.TestCase):
    def test_each_class_is_defined_in_its_file(self):
        for module, names in CLASSES.items():
            for name in names:
                with self.subTest(name):
                    found = getattr(importlib.import_module(module), name)
                    self.assertTrue(inspect.isclass(found))
                    self.assertEqual(found.__module__, module)

    def test_each_function_is_defined_in_its_file_with_its_arguments(self):
        for module, functions in FUNCTIONS.items():
            for name, arguments in functions.items():
                with self.subTest(name):
                    found = getattr(importlib.import_module(module), name)
                    self.assertTrue(inspect.isfunction(found))
                    self.assertEqual(found.__module__, module)
                    self.assertEqual(list(inspect.signature(found).parameters), arguments)


class FormTest(unittest.TestCase):
    def test_the_folder_holds_nothing_but_python_files(self):
        for name in package_files():
            with self.subTest(name):
                self.assertTrue(name.endswith(".py"))

    def test_files_and_lines_are_short(self):
        for name in package_files():
            rows = source_of(name).split("\n")
            with self.subTest(name):
                self.assertLessEqual(len(rows), 399)
                self.assertLessEqual(max(len(row) for row in rows), 120)
                self.assertNotIn("\t", "".join(rows))

    def test_functions_are_short(self):
        for name in package_files():
            for node in ast.walk(ast.parse(source_of(name))):
                if isinstance(node, ast.FunctionDef):
                    with self.subTest(file=name, function=node.name):
                        self.assertLessEqual(node.end_lineno - node.lineno + 1, 40)

    def test_imports_are_from_the_package(self):
        for name in package_files():
            for node in ast.walk(ast.parse(source_of(name))):
                with self.subTest(name):
                    self.assertNotIsInstance(node, ast.Import)
                    if isinstance(node, ast.ImportFrom):
                        self.assertEqual(node.level, 0)
                        self.assertTrue(node.module.startswith("readyfire."))


if __name__ == "__main__":
    unittest.main()
