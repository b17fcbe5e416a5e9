"""Stage 1: integers, names and fractions (0.1, 0.5, 0.7)."""

import unittest
from copy import deepcopy

from munchbehind.base import words
from munchbehind.base.words import are_names, coprime, is_count, is_integer, is_name
from munchbehind.errors import InvalidNumber
from tests.values import INTEGERS, LONG_INTEGERS, NAMES, STRINGS, everything, is_plain_integer, nested, objects, others


def common_divisor(one, other):
    while other:
        one, other = other, one % other
    return one


class WordsTest(unittest.TestCase):
    def assert_answers(self, function, right, wrong):
        for value in right:
            with self.subTest(function.__name__, right=value):
                self.assertIs(function(value), True)
        for value in wrong:
            with self.subTest(function.__name__, wrong=value):
                self.assertIs(function(value), False)

    def test_constants(self):
        self.assertEqual((words.MAX_LETTERS, words.MAX_FIGURES), (8, 60))

    def test_example(self):
        told = [is_integer(-7), is_count(True), is_name("add_"), are_names(("a", "b", "a"))]
        self.assertEqual(told, [True, False, False, True])
        self.assertEqual([coprime(6, 4), coprime(0, 9)], [(3, 2), (0, 1)])

    def test_is_integer(self):
        great = (int("9" * 60), -int("9" * 60), int("1" + "0" * 59), -int("1" + "0" * 59))
        self.assert_answers(is_integer, (*INTEGERS, *great), others(is_plain_integer))
        self.assert_answers(is_integer, (), (None, True, False, *LONG_INTEGERS, *NAMES, *STRINGS))
        self.assert_answers(is_integer, (), (*nested(), *objects()))

    def test_is_integer_has_sixty_figures_with_either_sign(self):
        self.assert_answers(is_integer, (10 ** 60 - 1, 1 - 10 ** 60), (10 ** 60, -(10 ** 60), 10 ** 61, -(10 ** 61)))

    def test_is_count(self):
        self.assert_answers(is_count, (0, 1, 2, 200, 10 ** 59, 10 ** 60 - 1), (-1, -7, 1 - 10 ** 60))
        self.assert_answers(is_count, (), (None, True, False, *LONG_INTEGERS, *NAMES, *STRINGS))
        self.assert_answers(is_count, (), (*nested(), *objects()))

    def test_is_name(self):
        self.assert_answers(is_name, (*NAMES, "abcdefgh", "ijklmnop", "qrstuvwx", "yz"), STRINGS)
        self.assert_answers(is_name, (), (None, True, False, *INTEGERS, *LONG_INTEGERS))
        self.assert_answers(is_name, (), (*nested(), *objects(), ("a",), ["a"], {"a": 0}))

    def test_is_name_has_one_to_eight_letters(self):
        self.assert_answers(is_name, ("a", "ab", "a" * 7, "a" * 8), ("", "a" * 9, "a" * 4000))

    def test_is_name_has_small_letters_alone(self):
        for code in range(0x250):
            sign = chr(code)
            with self.subTest(sign=sign):
                right = "a" <= sign <= "z"
                self.assertIs(is_name(sign), right)
                self.assertIs(is_name("a" + sign), right)
                self.assertIs(is_name(sign + "a"), right)

    def test_a_newline_behind_a_name_makes_it_none(self):
        self.assert_answers(is_name, (), ("a\n", "\na", "abcdefg\n", "abcdefgh\n"))
        self.assert_answers(are_names, (), (("a\n",), ("a", "b\n")))

    def test_are_names(self):
        self.assert_answers(are_names, ((), ("a",), ("a", "a"), ("abcdefgh", "b") * 3000), ())
        self.assert_answers(are_names, (), (("a", ""), ("a", "abcdefghi"), ("A",), ("a", 1), ("a", None), ("_", "a")))
        self.assert_answers(are_names, (), (("a", ("b",)), (["a"],), ({},), ["a"], {"a": "b"}))
        self.assert_answers(are_names, (), ("a", "ab", "", None, 1, True, *LONG_INTEGERS))
        self.assert_answers(are_names, (), objects() + [tuple(objects())])

    def test_values_are_judged_alike_again_and_not_changed(self):
        for function in (is_integer, is_count, is_name, are_names):
            for value in nested():
                before = deepcopy(value)
                with self.subTest(function.__name__, value=value):
                    self.assertIs(function(value), function(before))
                    self.assertEqual(value, before)

    def test_every_value_is_answered_true_or_false(self):
        for function in (is_integer, is_count, is_name, are_names):
            for value in everything():
                self.assertIn(function(value), (True, False))
                self.assertIs(type(function(value)), bool)


class CoprimeTest(unittest.TestCase):
    def assert_reduced(self, one, other):
        pair = coprime(one, other)
        self.assertIs(type(pair), tuple)
        above, below = pair
        self.assertEqual(above * other, below * one)
        self.assertEqual(common_divisor(above, below), 1)
        self.assertGreaterEqual(above, 0)
        self.assertGreaterEqual(below, 1)

    def test_small_numbers(self):
        for one in range(40):
            for other in range(1, 40):
                with self.subTest(one=one, other=other):
                    self.assert_reduced(one, other)

    def test_zero_first(self):
        for other in (1, 2, 9, 10 ** 60 - 1):
            self.assertEqual(coprime(0, other), (0, 1))

    def test_numbers_of_sixty_figures(self):
        great = 10 ** 60 - 1
        pairs = ((great, great - 1), (great, 3), (7, great), (great, great), (10 ** 59, 2 ** 190), (great, 1))
        for one, other in pairs:
            with self.subTest(one=one, other=other):
                self.assert_reduced(one, other)
        self.assertEqual(coprime(10 ** 59, 2 * 10 ** 59), (1, 2))

    def assert_refused(self, one, other, kept):
        with self.assertRaises(InvalidNumber) as caught:
            coprime(one, other)
        self.assertIs(caught.exception.value, kept)

    def test_the_first_one_that_is_none_is_kept(self):
        wrong = others(lambda value: is_plain_integer(value) and value >= 0)
        for value in wrong:
            with self.subTest(value=value):
                self.assert_refused(value, 4, value)
                self.assert_refused(6, value, value)
                self.assert_refused(value, 0, value)
                self.assert_refused(value, "no", value)

    def test_the_second_one_is_at_least_one(self):
        self.assert_refused(0, 0, 0)
        self.assert_refused(5, 0, 0)
        self.assert_refused(-1, 0, -1)
        self.assert_refused(True, 0, True)
        self.assert_refused(1, False, False)

    def test_longer_numbers_are_none(self):
        for value in LONG_INTEGERS:
            self.assert_refused(value, 1, value)
            self.assert_refused(1, value, value)


if __name__ == "__main__":
    unittest.main()
