"""Stage 2: operators as such, their lines, and what objects are equal to, hold and tell (0.1, 0.2, 0.4)."""

import unittest
from itertools import permutations

from munchbehind.base import trees
from munchbehind.base.trees import Operators
from munchbehind.errors import CoverError, InvalidOperators, ParseError
from tests.values import everything, others

MANY = {"abcdefgh": 1, "b": 0, "c": 2, "d": 2, "e": 1, "f": 0, "g": 2, "z": 0}


class MadeTest(unittest.TestCase):
    def assert_refused(self, arities):
        with self.assertRaises(InvalidOperators):
            Operators(arities)

    def test_constants(self):
        told = (trees.MAX_OPERATORS, trees.MAX_TREE, trees.MAX_SIZE, trees.HOLE)
        self.assertEqual(told, (8, 5000, 200, "_"))

    def test_one_to_eight_operators(self):
        self.assert_refused({})
        for many in range(1, 9):
            self.assertEqual(len(Operators(dict(list(MANY.items())[:many]))), many)
        self.assert_refused({**MANY, "h": 0})
        self.assert_refused({"a" + sign: 0 for sign in "abcdefghijklmnopqrstuvwxyz"})

    def test_arities(self):
        for arity in (0, 1, 2):
            self.assertEqual(Operators({"a": arity}).arities, {"a": arity})
        for value in others(lambda value: type(value) is int and 0 <= value <= 2):
            with self.subTest(arity=value):
                self.assert_refused({"a": value})
                self.assert_refused({"a": 0, "b": value})
        self.assert_refused({"a": 3})
        self.assert_refused({"a": -1})
        self.assert_refused({"a": True})

    def test_names(self):
        for name in ("a", "zz", "abcdefgh"):
            self.assertEqual(Operators({name: 0}).names, (name,))
        for name in ("", "_", "A", "aB", "a1", "a b", "a\n", "abcdefghi", "\u00e4", 0, 1, None, True, (), ("a",)):
            with self.subTest(name=name):
                self.assert_refused({name: 0})
                self.assert_refused({"a": 0, name: 0})

    def test_other_values_are_refused(self):
        for value in others(lambda value: value == {"c": 0}):
            with self.subTest(value=value):
                self.assert_refused(value)
        self.assert_refused((("a", 0),))
        self.assert_refused([("a", 0)])
        self.assert_refused(Operators({"c": 0}))

    def test_operators_without_constants_are_some(self):
        self.assertEqual(Operators({"p": 2, "s": 1}).constants, ())


class LinesTest(unittest.TestCase):
    def assert_not_parsed(self, index, *lines):
        with self.assertRaises(ParseError) as caught:
            Operators.from_lines(*lines)
        self.assertEqual(caught.exception.number, index)

    def test_lines_in_any_order_make_equal_operators(self):
        made = Operators({"c": 0, "add": 2, "s": 1})
        for lines in permutations(("op add 2", "op c 0", "op s 1")):
            told = Operators.from_lines(*lines)
            self.assertEqual(told, made)
            self.assertEqual(told.lines, ("op add 2", "op c 0", "op s 1"))
            self.assertEqual(list(told.arities), ["add", "c", "s"])

    def test_lines_lead_back(self):
        made = Operators(MANY)
        self.assertEqual(Operators.from_lines(*made.lines), made)
        self.assertEqual(Operators.from_lines(*reversed(made.lines)).lines, made.lines)

    def test_what_is_no_line(self):
        wrong = [
            "", "op", "op a", "op a ", "op  a 0", " op a 0", "op a 0 ", "op a  0", "op a 0\n", "\nop a 0", "op a 0 0",
            "op\ta 0", "op a\n0", "op a 3", "op a 9", "op a -1", "op a 00", "op a 01", "op a 10", "op a +1", "op a x",
            "op A 0", "op a1 0", "op abcdefghi 0", "op _ 0", "op 0 a", "op  0", "opa 0", "Op a 0", "oper a 0", "goal a",
            "rule a 0 a", "a 0", "op a \u0661", "op a \u00b2", "op \u00e4 0", "op,a,0", "op a 0;", "#", "op op",
            "op a 1.",
        ]
        for line in wrong:
            with self.subTest(line=line):
                self.assert_not_parsed(0, line)
                self.assert_not_parsed(1, "op x 0", line)
        self.assertEqual(Operators.from_lines("op op 0").names, ("op",))

    def test_other_values_are_no_lines(self):
        for value in others(lambda value: value == "op a 0"):
            with self.subTest(value=value):
                self.assert_not_parsed(0, value)
                self.assert_not_parsed(2, "op a 0", "op b 1", value, "op a 0")

    def test_the_first_value_that_is_none_is_told(self):
        self.assert_not_parsed(1, "op a 0", "no", "op a 1", None)
        self.assert_not_parsed(1, "op a 0", "op a 1", "no")
        self.assert_not_parsed(2, "op b 0", "op a 0", "op b 0", "op a 0")
        self.assert_not_parsed(0, "op a 4", "op a 0")

    def test_parse_errors_come_ahead_of_too_many_operators(self):
        lines = [f"op {sign} 0" for sign in "abcdefghijk"]
        with self.assertRaises(InvalidOperators):
            Operators.from_lines(*lines)
        self.assert_not_parsed(11, *lines, "op a 0")
        self.assert_not_parsed(11, *lines, "op l 3")

    def test_no_lines_make_no_operators(self):
        with self.assertRaises(InvalidOperators):
            Operators.from_lines()

    def test_eight_lines(self):
        lines = [f"op {sign} 0" for sign in "abcdefgh"]
        self.assertEqual(Operators.from_lines(*lines).lines, tuple(lines))
        with self.assertRaises(InvalidOperators):
            Operators.from_lines(*lines, "op i 0")


class ToldTest(unittest.TestCase):
    def test_properties(self):
        ops = Operators({"v": 0, "p": 2, "ab": 1, "a": 0, "c": 0})
        self.assertEqual(ops.arities, {"a": 0, "ab": 1, "c": 0, "p": 2, "v": 0})
        self.assertEqual(list(ops.arities), ["a", "ab", "c", "p", "v"])
        self.assertEqual(ops.names, ("a", "ab", "c", "p", "v"))
        self.assertEqual(ops.constants, ("a", "c", "v"))
        self.assertEqual(ops.lines, ("op a 0", "op ab 1", "op c 0", "op p 2", "op v 0"))

    def test_properties_cannot_be_set(self):
        ops = Operators({"c": 0})
        for name in ("arities", "names", "constants", "lines"):
            with self.assertRaises(AttributeError):
                setattr(ops, name, ())

    def test_what_is_passed_is_not_shared(self):
        passed = {"v": 0, "p": 2}
        ops = Operators(passed)
        self.assertEqual(list(passed.items()), [("v", 0), ("p", 2)])
        passed["p"] = 1
        passed["q"] = 1
        del passed["v"]
        self.assertEqual(ops, Operators({"p": 2, "v": 0}))
        self.assertEqual((ops.lines, ops.constants, len(ops)), (("op p 2", "op v 0"), ("v",), 2))
        self.assertTrue(ops.is_tree(("p", "v", "v")))

    def test_what_is_returned_is_not_shared(self):
        ops = Operators({"p": 2, "v": 0})
        returned = ops.arities
        returned["p"] = 0
        returned["q"] = 0
        self.assertEqual(ops.arities, {"p": 2, "v": 0})
        self.assertEqual(ops, Operators({"p": 2, "v": 0}))
        self.assertTrue(ops.is_tree(("p", "v", "v")))
        self.assertFalse(ops.is_tree(("q",)))
        self.assertIsNot(ops.arities, ops.arities)

    def test_length(self):
        self.assertEqual([len(Operators({"a": 0})), len(Operators({"a": 0, "b": 1})), len(Operators(MANY))], [1, 2, 8])

    def test_contains(self):
        ops = Operators({"c": 0, "p": 2, "zz": 1})
        for value in everything():
            with self.subTest(value=value):
                right = isinstance(value, str) and value in ("c", "p", "zz")
                self.assertIs(value in ops, right)
                self.assertIs(value not in ops, not right)
        self.assertNotIn("op c 0", ops)
        self.assertNotIn("_", ops)
        self.assertNotIn(("c",), ops)

    def test_iterating_yields_the_lines(self):
        ops = Operators({"v": 0, "p": 2})
        self.assertEqual(list(ops), ["op p 2", "op v 0"])
        self.assertEqual([*ops, *ops], ["op p 2", "op v 0"] * 2)
        self.assertEqual(list(zip(ops, ops)), [("op p 2", "op p 2"), ("op v 0", "op v 0")])

    def test_errors_cannot_be_iterated_over(self):
        for error in (ParseError(0), CoverError("told")):
            with self.assertRaises(TypeError):
                iter(error)

    def test_equality(self):
        ops = Operators({"c": 0, "p": 2})
        self.assertIs(ops == Operators({"p": 2, "c": 0}), True)
        self.assertIs(ops != Operators({"p": 2, "c": 0}), False)
        for other in ({"c": 0}, {"c": 0, "p": 1}, {"c": 0, "q": 2}, {"c": 0, "p": 2, "q": 2}):
            self.assertIs(ops == Operators(other), False)
            self.assertIs(ops != Operators(other), True)

    def test_equality_accepts_every_value(self):
        ops = Operators({"c": 0, "p": 2})
        for value in [*everything(), object(), {"c": 0, "p": 2}, ("op c 0", "op p 2"), "2 operators"]:
            with self.subTest(value=value):
                self.assertIs(ops == value, False)
                self.assertIs(ops != value, True)
                self.assertIs(value == ops, False)
                self.assertIs(value != ops, True)
        self.assertIn(ops, [1, Operators({"c": 0, "p": 2})])

    def test_text(self):
        told = [str(Operators({"c": 0})), str(Operators({"c": 0, "v": 0, "p": 2})), str(Operators(MANY))]
        self.assertEqual(told, ["1 operators", "3 operators", "8 operators"])


if __name__ == "__main__":
    unittest.main()
