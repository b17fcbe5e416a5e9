"""Stage 2: numbers of trees (0.4, 2.1)."""

import unittest
from itertools import islice
from random import Random

from munchbehind.base.trees import Operators
from munchbehind.errors import InvalidNumber, InvalidTree
from tests.timed import TimedTest
from tests.values import all_trees, is_plain_integer, others

BOOKS = (
    {"c": 0}, {"c": 0, "v": 0, "p": 2}, {"c": 0, "s": 1}, {"a": 2, "b": 1, "c": 0}, {"p": 2, "q": 2, "z": 0},
    {"a": 0, "b": 2, "c": 1, "d": 0}, {"p": 2}, {"s": 1}, {"p": 2, "s": 1}, {"a": 0, "b": 0},
)
EIGHT = Operators({"a": 0, "b": 1, "c": 2, "d": 2, "e": 1, "f": 0, "g": 2, "h": 1})
NO_SIZES = others(lambda value: is_plain_integer(value) and 1 <= value <= 200)


def numbers_of_trees(arities, most):
    """The numbers of trees by sizes: the subtrees of binary operators share the places in all ways."""
    none, one, two = [list(arities.values()).count(arity) for arity in range(3)]
    many = [0, none]
    for size in range(2, most + 1):
        pairs = sum(many[left] * many[size - 1 - left] for left in range(1, size - 1))
        many.append(one * many[size - 1] + two * pairs)
    return many


class CountingTest(TimedTest):
    def assert_invalid_number(self, kept, function, *rest):
        with self.assertRaises(InvalidNumber) as caught:
            function(*rest)
        self.assertIs(caught.exception.value, kept)

    def test_examples(self):
        ops = Operators({"c": 0, "v": 0, "p": 2})
        self.assertEqual([ops.count_trees(3), ops.count_trees(4), ops.count_trees(5)], [4, 0, 16])
        self.assertEqual([list(ops.each_tree(1)), ops.tree_at(3, 1)], [[("c",), ("v",)], ("p", "c", "v")])
        self.assertEqual(ops.number_of(("p", "v", "v")), 3)

    def test_small_sizes(self):
        for arities in BOOKS:
            ops = Operators(arities)
            for size in range(1, 7):
                with self.subTest(arities=arities, size=size):
                    right = all_trees(arities, size)
                    self.assertEqual(ops.count_trees(size), len(right))
                    self.assertEqual(list(ops.each_tree(size)), right)
                    self.assertEqual([ops.tree_at(size, number) for number in range(len(right))], right)
                    self.assertEqual([ops.number_of(tree) for tree in right], list(range(len(right))))

    def test_all_sizes(self):
        for arities in (*BOOKS, EIGHT.arities):
            ops = Operators(arities)
            right = numbers_of_trees(arities, 200)
            for size in (*range(1, 30), 97, 98, 99, 100, 198, 199, 200):
                with self.subTest(arities=arities, size=size):
                    self.assertEqual(ops.count_trees(size), right[size])

    def test_sizes_without_trees(self):
        ops = Operators({"c": 0, "v": 0, "p": 2})
        for size in (2, 4, 100, 198, 200):
            self.assertEqual((ops.count_trees(size), list(ops.each_tree(size))), (0, []))
            self.assert_invalid_number(0, ops.tree_at, size, 0)
        for size in (2, 3, 199, 200):
            alone = Operators({"c": 0})
            self.assertEqual((alone.count_trees(size), list(alone.each_tree(size))), (0, []))

    def test_operators_without_constants(self):
        for arities in ({"p": 2}, {"s": 1}, {"p": 2, "s": 1}, {"a": 2, "b": 2, "c": 2, "d": 1, "e": 1}):
            ops = Operators(arities)
            for size in (1, 2, 3, 100, 199, 200):
                self.assertEqual((ops.count_trees(size), list(ops.each_tree(size))), (0, []))
                self.assert_invalid_number(0, ops.tree_at, size, 0)

    def test_sizes(self):
        ops = Operators({"c": 0, "s": 1})
        for value in (*NO_SIZES, 0, 201, -1, True, False, None, "3"):
            with self.subTest(value=value):
                self.assert_invalid_number(value, ops.count_trees, value)
                self.assert_invalid_number(value, list, ops.each_tree(value))
                self.assert_invalid_number(value, ops.tree_at, value, 0)
        for size in (1, 200):
            self.assertEqual((ops.count_trees(size), len(list(ops.each_tree(size)))), (1, 1))

    def test_each_tree_raises_its_error_when_asked(self):
        for value in (*NO_SIZES, 0, 201, -1, True):
            with self.subTest(value=value):
                told = EIGHT.each_tree(value)
                self.assert_invalid_number(value, next, told)

    def test_each_tree_is_a_generator(self):
        told = EIGHT.each_tree(3)
        self.assertIs(iter(told), told)
        self.assertEqual(next(told), ("b", "b", "a"))
        self.assertEqual(next(told), ("b", "b", "f"))
        other = EIGHT.each_tree(3)
        self.assertEqual(next(other), ("b", "b", "a"))
        self.assertEqual(next(told), ("b", "e", "a"))

    def test_first_results_of_great_sizes_come_at_once(self):
        mixed = ({"p": 2, "z": 0, "y": 0}, {"a": 2, "b": 2, "s": 1, "z": 0}, {"c": 0, "p": 2, "s": 1, "t": 1})
        for arities in (EIGHT.arities, *mixed):
            ops = Operators(arities)
            for size in (199, 197, 151):
                first = list(islice(ops.each_tree(size), 50))
                self.assertEqual(first, [ops.tree_at(size, number) for number in range(50)])

    def test_great_sizes_without_dead_ends(self):
        ops = Operators({"a": 1, "b": 2, "z": 0})
        self.assertEqual(next(ops.each_tree(200)), ("a",) * 199 + ("z",))
        ops = Operators({"a": 2, "z": 0})
        self.assertEqual(next(ops.each_tree(199)), ("a",) * 99 + ("z",) * 100)

    def test_more_trees_than_can_be_gathered(self):
        told = EIGHT.each_tree(40)
        trees = list(islice(told, 3000))
        self.assertEqual(trees, sorted(set(trees)))
        self.assertEqual([EIGHT.number_of(tree) for tree in trees], list(range(3000)))

    def test_numbers_lead_back_for_great_sizes(self):
        for arities in (EIGHT.arities, {"c": 0, "v": 0, "p": 2}, {"p": 2, "q": 2, "s": 1, "z": 0}):
            ops = Operators(arities)
            for size in (49, 151, 199):
                many = min(ops.count_trees(size), 10 ** 60)
                numbers = sorted({0, 1, 2, many // 3, many // 2, many - 2, many - 1})
                trees = [ops.tree_at(size, number) for number in numbers]
                self.assertEqual(trees, sorted(set(trees)))
                self.assertEqual({len(tree) for tree in trees}, {size})
                self.assertEqual([ops.number_of(tree) for tree in trees], numbers)
                self.assertTrue(all(ops.is_tree(tree) for tree in trees))

    def test_trees_lead_to_their_numbers_at_two_hundred_places(self):
        self.assertEqual(Operators({"s": 1, "c": 0}).number_of(("s",) * 199 + ("c",)), 0)
        self.assertEqual(EIGHT.number_of(("h",) * 199 + ("f",)), EIGHT.count_trees(200) - 1)
        self.assertEqual(EIGHT.number_of(("b",) * 199 + ("a",)), 0)
        ops = Operators({"c": 0, "v": 0, "p": 2})
        self.assertEqual(ops.number_of(("p", "v") * 99 + ("v",)), ops.count_trees(199) - 1)
        self.assertGreater(ops.count_trees(199), 10 ** 60)

    def test_numbers_that_are_none(self):
        ops = Operators({"c": 0, "v": 0, "p": 2})
        for value in others(lambda value: is_plain_integer(value) and 0 <= value < 16):
            with self.subTest(value=value):
                self.assert_invalid_number(value, ops.tree_at, 5, value)
        for value in (16, -1, True, False, None, "0", (0,)):
            self.assert_invalid_number(value, ops.tree_at, 5, value)
        for number in (0, 15):
            self.assertEqual(ops.number_of(ops.tree_at(5, number)), number)

    def test_longer_numbers_are_none(self):
        self.assertGreater(EIGHT.count_trees(200), 10 ** 100)
        for value in (10 ** 60, 10 ** 99):
            self.assert_invalid_number(value, EIGHT.tree_at, 200, value)
        self.assertEqual(EIGHT.number_of(EIGHT.tree_at(200, 10 ** 60 - 1)), 10 ** 60 - 1)

    def test_the_size_is_refused_first(self):
        for number in (-1, None, True, 10 ** 70):
            for size in (0, 201, None, True, (1,)):
                self.assert_invalid_number(size, EIGHT.tree_at, size, number)

    def test_number_of_no_trees(self):
        for value in others(lambda value: value in (("c",),)):
            with self.subTest(value=value):
                with self.assertRaises(InvalidTree):
                    Operators({"c": 0, "s": 1}).number_of(value)
        for value in (("s",), ("c", "c"), ("_",), ("s", "_"), (), ["c"], ("s", "x")):
            with self.assertRaises(InvalidTree):
                Operators({"c": 0, "s": 1}).number_of(value)

    def test_number_of_has_at_most_two_hundred_places(self):
        ops = Operators({"c": 0, "s": 1, "p": 2})
        self.assertGreater(ops.number_of(("s",) * 199 + ("c",)), 0)
        for tree in (("s",) * 200 + ("c",), ("p", "c") * 100 + ("c",), ("s",) * 4999 + ("c",), ("s",) * 5000 + ("c",)):
            with self.assertRaises(InvalidTree):
                ops.number_of(tree)


class AskedAgainTest(TimedTest):
    """One object that is asked for many sizes, in any order and more than once."""

    seconds = 25
    mixtures = (
        *BOOKS, EIGHT.arities, {"a": 0, "b": 0, "s": 1, "t": 1, "u": 1, "p": 2}, {"a": 0, "s": 1, "t": 1, "p": 2},
        {"a": 0, "b": 0, "d": 0, "p": 2, "q": 2, "r": 2, "s": 1}, {"a": 0, "p": 2, "s": 1},
    )

    def orders(self):
        mixed = [*range(1, 201), *range(1, 201, 3)]
        Random(5).shuffle(mixed)
        return (range(1, 201), range(200, 0, -1), mixed, [200, 1, 200, 3, 2, 200, 199, 1], [7, 7, 8, 8, 7])

    def test_counts_in_any_order(self):
        for arities in self.mixtures:
            right = numbers_of_trees(arities, 200)
            for order in self.orders():
                ops = Operators(arities)
                self.assertEqual([ops.count_trees(size) for size in order], [right[size] for size in order])
                self.assertEqual([ops.count_trees(size) for size in range(1, 201)], right[1:])

    def test_trees_and_numbers_in_any_order(self):
        for arities in self.mixtures:
            right = numbers_of_trees(arities, 200)
            fresh = [size for size in (1, 2, 3, 5, 9, 10, 21, 60, 61, 130, 199, 200) if right[size]]
            for order in (fresh, fresh[::-1], fresh[::2] + fresh[::-1] + fresh):
                ops = Operators(arities)
                for size in order:
                    number = min(right[size], 10 ** 60) * 2 // 3
                    tree = ops.tree_at(size, number)
                    self.assertEqual((tree, number), (Operators(arities).tree_at(size, number), ops.number_of(tree)))
                    self.assertEqual(Operators(arities).number_of(tree), number)
                    self.assertEqual(next(ops.each_tree(size)), ops.tree_at(size, 0))

    def test_a_generator_goes_on_while_others_are_asked(self):
        ops = Operators({"c": 0, "v": 0, "p": 2, "s": 1})
        told = ops.each_tree(6)
        first = [next(told) for _ in range(5)]
        ops.tree_at(200, 0)
        ops.count_trees(150)
        self.assertEqual(first + list(told), all_trees(ops.arities, 6))

    def test_wrong_numbers(self):
        ops = Operators({"c": 0, "v": 0, "p": 2})
        for _ in range(2):
            for size in (200, 5, 199, 3):
                many = ops.count_trees(size)
                for number in (-1, many if many < 10 ** 60 else 10 ** 60, None, True):
                    with self.assertRaises(InvalidNumber) as caught:
                        ops.tree_at(size, number)
                    self.assertIs(caught.exception.value, number)

    def test_many_questions(self):
        # Twenty for each of many objects: counted anew at each question, they take far longer than is let.
        for at in range(1500):
            more = {"abcdefgh"[at % 2]: at % 3, "x": 1} if at % 4 else {}
            ops = Operators({"c": 0, "v": 0, "p": 2, **more})
            for size in (200, 199, 151, 90, 33):
                many = ops.count_trees(size)
                if many:
                    self.assertEqual(ops.number_of(ops.tree_at(size, min(many, 10 ** 60) - 1)), min(many, 10 ** 60) - 1)
                with self.assertRaises(InvalidNumber):
                    ops.tree_at(size, 10 ** 60)


if __name__ == "__main__":
    unittest.main()
