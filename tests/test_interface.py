"""The head of the interface, and [1] as far as it speaks of the whole program."""

import ast
import importlib
import pathlib
import unittest

PACKAGE = pathlib.Path(__file__).resolve().parent.parent / "fewlabels"
FUNCTIONS = {
    "following": ("known", "is_enough", "is_chain"),
    "labelling": ("set_cost", "cheapest"),
    "amounts": ("value",),
    "texts": ("unit_text", "expression_text", "system_text", "read_unit", "read_expression", "read_system"),
}
# For each class its methods, its properties and its class methods.
CLASSES = {
    "units": {"Unit": (
        "__init__ __eq__ __mul__ __floordiv__ __pow__ __contains__ __getitem__ __bool__", "powers", "base")},
    "formulas": {
        "Expression": ("__eq__ __add__ __sub__ __mul__ __floordiv__ __pow__", "size names", ""),
        "Formula": ("__init__ __eq__ fits", "left right names", ""),
        "Name": ("__init__", "", ""), "Number": ("__init__", "", ""), "Sum": ("__init__", "", ""),
        "Difference": ("__init__", "", ""), "Product": ("__init__", "", ""), "Quotient": ("__init__", "", ""),
        "Power": ("__init__", "", "")},
    "systems": {"System": ("__init__ __eq__ cost label balances fits", "bases names formulas", "")},
    "labelling": {"Labelling": ("__init__ __eq__ shows", "", "")},
    "amounts": {"Amount": (
        "__init__ __eq__ __add__ __sub__ __mul__ __floordiv__ __pow__ __neg__ __abs__ __bool__ exceeds", "number unit",
        "plain")},
    "notebooks": {"Notebook": (
        "__init__ write undo allows __contains__ __getitem__ __len__ __bool__", "written system", "")},
}


def listed(file, word):
    """What the interface lists under this file."""
    return getattr(importlib.import_module(f"fewlabels.{file}"), word)


class TestInterface(unittest.TestCase):

    def test_functions(self):
        for file, words in FUNCTIONS.items():
            for word in words:
                with self.subTest(file=file, word=word):
                    self.assertEqual(listed(file, word).__module__, f"fewlabels.{file}")

    def test_classes(self):
        for file, classes in CLASSES.items():
            for word, members in classes.items():
                with self.subTest(file=file, word=word):
                    found = listed(file, word)
                    self.assertIsInstance(found, type)
                    self.assertEqual(found.__module__, f"fewlabels.{file}")
                    self.has_members(found, *members)

    def has_members(self, found, methods, properties, class_methods):
        """Check that these stand in the class itself."""
        for word in methods.split():
            self.assertTrue(callable(vars(found)[word]))
        for word in properties.split():
            self.assertIsInstance(vars(found)[word], property)
        for word in class_methods.split():
            self.assertIsInstance(vars(found)[word], classmethod)

    def test_imports_are_of_the_package_and_of_mathematics_only(self):
        for path in PACKAGE.glob("*.py"):
            for node in ast.walk(ast.parse(path.read_text(encoding="utf-8"))):
                self.assertNotIsInstance(node, ast.Import)
                if isinstance(node, ast.ImportFrom):
                    self.assertIn(node.module.partition(".")[0], ("fewlabels", "math"))

    def test_nothing_of_the_host_machine_is_called(self):
        for path in PACKAGE.glob("*.py"):
            for node in ast.walk(ast.parse(path.read_text(encoding="utf-8"))):
                if isinstance(node, ast.Name):
                    self.assertNotIn(node.id, ("open", "input", "print", "hash", "id", "exec", "eval"))


if __name__ == "__main__":
    unittest.main()
