"""The interface of DOC.md: names, parameters, and in which files and classes they are defined."""

import inspect
import unittest
from importlib import import_module

FUNCTIONS = {
    "munchbehind.base.words": {
        "is_integer": "(value)", "is_count": "(value)", "is_name": "(value)", "are_names": "(value)",
        "coprime": "(one, other)",
    },
}
CLASSES = {
    "munchbehind.base.trees": {
        "Operators": {
            "__init__": "(self, arities)", "from_lines": "(*lines)", "is_tree": "(self, value)",
            "is_context": "(self, value)", "end": "(self, tree, place)", "subtree": "(self, tree, place)",
            "children": "(self, tree, place)", "above": "(self, tree, place)", "levels": "(self, tree)",
            "replaced": "(self, tree, place, other)", "cut": "(self, tree, place)", "filled": "(self, context, *rest)",
            "count_trees": "(self, size)", "each_tree": "(self, size)", "tree_at": "(self, size, number)",
            "number_of": "(self, tree)",
        },
    },
}
PROPERTIES = {("munchbehind.base.trees", "Operators"): ("arities", "names", "constants", "lines")}
OPERATIONS = {("munchbehind.base.trees", "Operators"): ("__len__", "__contains__", "__iter__", "__eq__", "__str__")}
CONSTANTS = {
    "munchbehind.base.words": {"MAX_LETTERS": 8, "MAX_FIGURES": 60},
    "munchbehind.base.trees": {"MAX_OPERATORS": 8, "MAX_TREE": 5000, "MAX_SIZE": 200, "HOLE": "_"},
}


class InterfaceTest(unittest.TestCase):
    def test_functions(self):
        for module, functions in FUNCTIONS.items():
            for name, parameters in functions.items():
                with self.subTest(module, name=name):
                    function = getattr(import_module(module), name)
                    self.assertEqual(function.__module__, module)
                    self.assertEqual(str(inspect.signature(function)), parameters)

    def test_methods(self):
        for module, classes in CLASSES.items():
            for name, methods in classes.items():
                made = getattr(import_module(module), name)
                self.assertEqual(made.__module__, module)
                for method, parameters in methods.items():
                    with self.subTest(module, name=name, method=method):
                        self.assertIn(method, vars(made))
                        self.assertEqual(str(inspect.signature(getattr(made, method))), parameters)

    def test_properties(self):
        for (module, name), properties in PROPERTIES.items():
            for told in properties:
                self.assertIsInstance(vars(getattr(import_module(module), name))[told], property)

    def test_operations(self):
        for (module, name), operations in OPERATIONS.items():
            for operation in operations:
                self.assertIn(operation, vars(getattr(import_module(module), name)))

    def test_constants(self):
        for module, constants in CONSTANTS.items():
            for name, value in constants.items():
                self.assertEqual(getattr(import_module(module), name), value)


if __name__ == "__main__":
    unittest.main()
