"""The promises 1.1 and 1.2."""

import unittest

from munchbehind import errors
from munchbehind.base.trees import Operators

FORMS = (
    "InvalidOperators", "InvalidTree", "InvalidBook", "InvalidCover", "InvalidKind", "InvalidState", "InvalidPaper",
    "InvalidOperation", "ParseError",
)
KEEPERS = {
    "ParseError": ("number", errors.CoverError),
    "UnknownName": ("word", KeyError),
    "NotCovered": ("uncovered", LookupError),
    "InvalidNumber": ("value", IndexError),
    "NothingToUndo": ("many", RuntimeError),
    "TooMany": ("limit", OverflowError),
    "Stuck": ("place", ArithmeticError),
    "Refused": ("pledge", ArithmeticError),
}


class ErrorsTest(unittest.TestCase):
    def test_cover_error_is_derived_from_value_error(self):
        self.assertEqual(errors.CoverError.__bases__, (ValueError,))
        self.assertIn("told", str(errors.CoverError("told")))

    def test_forms_are_directly_derived_from_cover_error(self):
        for name in FORMS:
            with self.subTest(name):
                self.assertEqual(getattr(errors, name).__bases__, (errors.CoverError,))

    def test_forms_are_not_derived_from_one_another(self):
        for name in FORMS:
            for other in FORMS:
                with self.subTest(name, other=other):
                    derived = issubclass(getattr(errors, name), getattr(errors, other))
                    self.assertEqual(derived, name == other)

    def test_keepers_are_directly_derived_as_told(self):
        for name, (_, base) in KEEPERS.items():
            with self.subTest(name):
                self.assertEqual(getattr(errors, name).__bases__, (base,))

    def test_keepers_but_one_are_no_cover_errors(self):
        for name in KEEPERS:
            with self.subTest(name):
                self.assertEqual(issubclass(getattr(errors, name), errors.CoverError), name == "ParseError")

    def test_forms_take_a_message(self):
        for name in FORMS:
            if name in KEEPERS:
                continue
            with self.subTest(name):
                with self.assertRaises(errors.CoverError) as caught:
                    raise getattr(errors, name)("told why")
                self.assertIs(type(caught.exception), getattr(errors, name))

    def test_keepers_keep_any_value(self):
        values = [None, 0, -1, 10 ** 60, True, "", "told", (), ("a", 1), ["a"], {"a": 1}, object()]
        values.append(Operators({"c": 0}))
        for name, (attribute, base) in KEEPERS.items():
            for value in values:
                with self.subTest(name, value=value):
                    with self.assertRaises(base) as caught:
                        raise getattr(errors, name)(value)
                    self.assertIs(getattr(caught.exception, attribute), value)

    def test_keepers_take_their_values_by_name_too(self):
        for name, (attribute, _) in KEEPERS.items():
            with self.subTest(name):
                error = getattr(errors, name)(**{attribute: ("a", 1)})
                self.assertEqual(getattr(error, attribute), ("a", 1))

    def test_keepers_take_exactly_one_value(self):
        for name in KEEPERS:
            with self.subTest(name):
                with self.assertRaises(TypeError):
                    getattr(errors, name)()
                with self.assertRaises(TypeError):
                    getattr(errors, name)(1, 2)

    def test_all_are_defined_in_the_module(self):
        for name in ("CoverError", *FORMS, *KEEPERS):
            with self.subTest(name):
                self.assertEqual(getattr(errors, name).__module__, "munchbehind.errors")


if __name__ == "__main__":
    unittest.main()
