"""The interface of DOC.md: names, parameters, and in which files and classes they are defined."""

import inspect
import unittest
from importlib import import_module

FUNCTIONS = {
    "munchbehind.base.words": {
        "is_integer": "(value)", "is_count": "(value)", "is_name": "(value)", "are_names": "(value)",
        "coprime": "(one, other)",
    },
    "munchbehind.match.kinds": {
        "leaves_at": "(book, pattern, tree, place)", "matching": "(book, tree, place)", "is_kind_form": "(book, value)",
    },
    "munchbehind.cover.covers": {
        "is_cover": "(book, tree, value, *, start=None)", "cover_price": "(book, tree, cover, *, start=None)",
        "tiles": "(book, tree, cover, *, start=None)", "cheapest": "(book, tree, *, start=None)",
        "cheapest_price": "(book, tree, *, start=None)", "count_covers": "(book, tree, *, start=None)",
        "each_cover": "(book, tree, *, start=None)", "cover_at": "(book, tree, number, *, start=None)",
        "number_of_cover": "(book, tree, cover, *, start=None)", "chain_price": "(book, one, other)",
    },
    "munchbehind.cover.greedy": {
        "pick": "(book, kind, nonterminal, *, careful=False)", "greedy": "(book, tree, *, careful=False, start=None)",
        "stuck_at": "(book, tree, *, careful=False, start=None)",
        "greedy_price": "(book, tree, *, careful=False, start=None)",
        "excess": "(book, tree, *, careful=False, start=None)", "sides_of": "(book, tree, cover, *, start=None)",
        "prices_at": "(book, tree, cover, *, start=None)",
    },
    "munchbehind.decide.stuck": {
        "met_states": "(book, *, careful=False)", "is_never_stuck": "(book, *, careful=False)",
        "stuck_tree": "(book, *, careful=False)", "stuck_paper": "(book, *, careful=False)",
        "is_stuck_paper": "(book, value, *, careful=False)",
    },
    "munchbehind.decide.pumps": {
        "is_pump": "(book, outer, loop, inner, *, careful=False)",
        "loops_in": "(book, tree, cover, *, careful=False)", "cut_loop": "(book, tree, cover, pair, *, careful=False)",
    },
    "munchbehind.decide.papers": {
        "paper": "(book, *, careful=False)", "is_paper": "(book, value, *, careful=False)",
        "is_bounded": "(book, *, careful=False)", "greatest_excess": "(book, *, careful=False)",
        "bounds": "(book, *, careful=False)", "worst_tree": "(book, *, careful=False)",
    },
    "munchbehind.decide.sizes": {
        "greatest_by_sizes": "(book, size, *, careful=False)", "worst_of_size": "(book, size, *, careful=False)",
        "least_behind": "(book, number, *, careful=False)", "excess_counts": "(book, size, *, careful=False)",
        "count_stuck": "(book, size, *, careful=False)",
    },
    "munchbehind.decide.ratios": {
        "ratio": "(book, *, careful=False)", "ratio_paper": "(book, *, careful=False)",
        "is_ratio_paper": "(book, value, *, careful=False)",
    },
    "munchbehind.decide.orders": {
        "count_orders": "(book)", "each_order": "(book)", "verdict": "(book, order, *, careful=False)",
        "best_orders": "(book, *, careful=False)", "lead": "(book, one, other, *, careful=False)",
        "lead_tree": "(book, one, other, *, careful=False)",
    },
    "munchbehind.text.texts": {
        "write_tree": "(tree)", "read_tree": "(text)", "write_cover": "(cover)", "read_cover": "(text)",
        "write_book": "(book)", "read_book": "(text)", "write_state": "(state)", "read_state": "(text)",
        "write_paper": "(paper)", "read_paper": "(text)",
    },
}
CLASSES = {
    "munchbehind.base.trees": {
        "Operators": {
            "__init__": "(self, arities)", "from_lines": "(*lines)", "is_tree": "(self, value)",
            "is_context": "(self, value)", "end": "(self, tree, place)", "subtree": "(self, tree, place)",
            "children": "(self, tree, place)", "above": "(self, tree, place)", "levels": "(self, tree)",
            "replaced": "(self, tree, place, other)", "cut": "(self, tree, place)", "filled": "(self, context, *rest)",
            "count_trees": "(self, size)", "each_tree": "(self, size)", "tree_at": "(self, size, number)",
            "number_of": "(self, tree)",
        },
    },
    "munchbehind.base.books": {
        "Book": {
            "__init__": "(self, operators, goal, rules)", "from_lines": "(*lines)", "rules_of": "(self, nonterminal)",
            "with_rule": "(self, rule, *, at=None)", "without_rule": "(self, index)", "moved": "(self, index, to)",
            "with_price": "(self, index, price)", "scaled": "(self, number)", "ordered": "(self, order)",
            "largest_first": "(self)", "renamed": "(self, names)",
        },
    },
    "munchbehind.match.kinds": {
        "Kinds": {
            "__init__": "(self, book)", "of_tree": "(self, tree)", "after": "(self, operator, *rest)",
            "covered": "(self, kind)", "tree_of": "(self, kind)",
        },
    },
    "munchbehind.decide.pairs": {
        "Pairs": {
            "__init__": "(self, book, *, careful=False)", "moves": "(self, state)", "tree_of": "(self, state)",
            "along": "(self, tree, cover)",
        },
    },
    "munchbehind.decide.pumps": {
        "Pump": {
            "__init__": "(self, book, outer, loop, inner, *, careful=False)", "tree": "(self, times)",
            "greedy_price": "(self, times)", "cheapest_price": "(self, times)", "excess": "(self, times)",
            "first_times": "(self, number)",
        },
    },
    "munchbehind.use.bench": {
        "Bench": {
            "__init__": "(self, book, *, careful=False)", "draw": "(self, line, *, at=None)", "erase": "(self, index)",
            "move": "(self, index, to)", "demand": "(self, pledge)", "waive": "(self, pledge)",
            "undo": "(self, *, many=1)", "redo": "(self, *, many=1)", "trial": "(self)", "during": "(self, call)",
            "twin": "(self)",
        },
    },
    "munchbehind.text.shell": {
        "Shell": {
            "__init__": "(self, text, *, careful=False)", "answer": "(self, line)", "__call__": "(self, line)",
            "bench": "(self)",
        },
    },
}
PROPERTIES = {
    ("munchbehind.base.trees", "Operators"): ("arities", "names", "constants", "lines"),
    ("munchbehind.base.books", "Book"): ("operators", "goal", "rules", "nonterminals", "parts", "lines"),
    ("munchbehind.match.kinds", "Kinds"): ("book", "kinds"),
    ("munchbehind.decide.pairs", "Pairs"): ("book", "is_careful", "states", "starts"),
    ("munchbehind.decide.pumps", "Pump"): (
        "book", "outer", "loop", "inner", "is_careful", "side", "loop_prices", "rate",
    ),
    ("munchbehind.use.bench", "Bench"): ("book", "is_careful", "last", "pledges"),
}
OPERATIONS = {
    ("munchbehind.base.trees", "Operators"): ("__len__", "__contains__", "__iter__", "__eq__", "__str__"),
    ("munchbehind.base.books", "Book"): ("__len__", "__iter__", "__eq__", "__str__"),
    ("munchbehind.match.kinds", "Kinds"): ("__len__", "__contains__", "__iter__", "__eq__", "__str__"),
    ("munchbehind.decide.pairs", "Pairs"): ("__len__", "__contains__", "__iter__", "__eq__", "__str__"),
    ("munchbehind.decide.pumps", "Pump"): ("__eq__", "__str__"),
    ("munchbehind.use.bench", "Bench"): ("__len__", "__contains__", "__iter__", "__eq__", "__str__"),
    ("munchbehind.text.shell", "Shell"): ("__len__", "__call__"),
}
CONSTANTS = {
    "munchbehind.base.words": {"MAX_LETTERS": 8, "MAX_FIGURES": 60},
    "munchbehind.base.trees": {"MAX_OPERATORS": 8, "MAX_TREE": 5000, "MAX_SIZE": 200, "HOLE": "_"},
    "munchbehind.base.books": {"MAX_RULES": 12, "MAX_PATTERN": 7, "MAX_PRICE": 9, "MAX_NONTERMINALS": 6},
    "munchbehind.match.kinds": {"MAX_KINDS": 60},
    "munchbehind.decide.pairs": {"MAX_STATES": 600},
    "munchbehind.decide.pumps": {"MAX_TIMES": 10 ** 18},
    "munchbehind.decide.sizes": {"MAX_ASKED": 40, "MAX_BEHIND": 50, "MAX_LISTED": 20000},
    "munchbehind.decide.orders": {"MAX_ORDERS": 720},
    "munchbehind.use.bench": {"MAX_PLEDGES": 10},
}


class InterfaceTest(unittest.TestCase):
    def test_functions(self):
        for module, functions in FUNCTIONS.items():
            for name, parameters in functions.items():
                with self.subTest(module, name=name):
                    function = getattr(import_module(module), name)
                    self.assertEqual(function.__module__, module)
                    self.assertEqual(str(inspect.signature(function)), parameters)

    def test_methods(self):
        for module, classes in CLASSES.items():
            for name, methods in classes.items():
                made = getattr(import_module(module), name)
                self.assertEqual(made.__module__, module)
                for method, parameters in methods.items():
                    with self.subTest(module, name=name, method=method):
                        self.assertIn(method, vars(made))
                        self.assertEqual(str(inspect.signature(getattr(made, method))), parameters)

    def test_properties(self):
        for (module, name), properties in PROPERTIES.items():
            for told in properties:
                self.assertIsInstance(vars(getattr(import_module(module), name))[told], property)

    def test_operations(self):
        for (module, name), operations in OPERATIONS.items():
            for operation in operations:
                self.assertIn(operation, vars(getattr(import_module(module), name)))

    def test_constants(self):
        for module, constants in CONSTANTS.items():
            for name, value in constants.items():
                self.assertEqual(getattr(import_module(module), name), value)


if __name__ == "__main__":
    unittest.main()
