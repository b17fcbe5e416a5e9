"""Stage 10: excess by sizes (0.2, 0.4, 10.1)."""

import unittest
from collections import Counter

from munchbehind.base.books import Book
from munchbehind.cover.covers import cheapest_price
from munchbehind.cover.greedy import excess, stuck_at
from munchbehind.decide.papers import greatest_excess, is_bounded
from munchbehind.decide.sizes import count_stuck, excess_counts, greatest_by_sizes, least_behind, worst_of_size
from munchbehind.errors import InvalidBook, InvalidNumber, InvalidOperation, TooMany
from tests.deciding import FREE, MODES, NO_RULES, NO_TREES, PILED, SAMPLES, SIX, excesses, piled_high
from tests.oracles import ADDS, LOADS, ONE_MORE, RING, SIX_HUNDRED, SIXTY, SIXTY_ONE, STEPS, Truth
from tests.refused import RefusedTest, wrong_values
from tests.values import is_plain_integer, others

BY_SIZE = (greatest_by_sizes, worst_of_size, excess_counts, count_stuck)
FUNCTIONS = (*BY_SIZE, least_behind)
# One tree of each size.
ROWS = (STEPS, FREE, SIX_HUNDRED)


def row(size):
    return ("s",) * (size - 1) + ("c",)


def sizes_with_few_trees(book, most=120, greatest=7):
    return [size for size in range(1, greatest + 1) if book.operators.count_trees(size) <= most]


class SizesTest(RefusedTest):
    def test_examples(self):
        told = [greatest_by_sizes(STEPS, 8), greatest_by_sizes(ADDS, 5), worst_of_size(ADDS, 2)]
        self.assertEqual(told, [(0, 0, 0, 0, 0, 0, 1, 0), (0, None, 2, None, 4), None])
        self.assertEqual(worst_of_size(STEPS, 7), SIX)
        told = [len(least_behind(ADDS, 3)), least_behind(STEPS, 2), excess_counts(ADDS, 3), excess_counts(LOADS, 2)]
        self.assertEqual((told, count_stuck(LOADS, 2)), ([5, None, {0: 2, 2: 2}, {0: 1}], 1))

    def test_all_trees_of_small_sizes(self):
        for book in SAMPLES:
            for careful in MODES:
                truth = Truth(book)
                for size in sizes_with_few_trees(book):
                    trees = list(book.operators.each_tree(size))
                    told = excesses(book, trees, careful)
                    covered = {tree for tree, _ in told}
                    counts = Counter(number for _, number in told)
                    stuck = [tree for tree in trees if tree not in covered and truth.is_covered(tree, book.goal)]
                    self.assertEqual(count_stuck(book, size, careful=careful), len(stuck))
                    found = excess_counts(book, size, careful=careful)
                    self.assertEqual((found, list(found)), (dict(counts), sorted(counts)))
                    self.assertEqual(greatest_by_sizes(book, size, careful=careful)[-1], max(counts, default=None))
                    tree = worst_of_size(book, size, careful=careful)
                    if not told:
                        self.assertIsNone(tree)
                    else:
                        self.assertIn((tree, max(counts)), told)

    def test_rows_up_to_forty_places(self):
        for book in ROWS:
            for careful in MODES if book is not SIX_HUNDRED else (False,):
                right = tuple(excess(book, row(size), careful=careful) for size in range(1, 41))
                for size in (1, 2, 39, 40):
                    self.assertEqual(greatest_by_sizes(book, size, careful=careful), right[:size])
                for size in (1, 7, 25, 40):
                    most = right[size - 1]
                    self.assertEqual(worst_of_size(book, size, careful=careful), None if most is None else row(size))
                    counts = {} if most is None else {most: 1}
                    self.assertEqual(excess_counts(book, size, careful=careful), counts)
                    stuck = most is None and cheapest_price(book, row(size)) is not None
                    self.assertEqual(count_stuck(book, size, careful=careful), int(stuck))

    def test_forty_places_in_other_books(self):
        for book in (ADDS, PILED, LOADS, SIXTY, *SAMPLES[8:20]):
            for careful in MODES:
                told = greatest_by_sizes(book, 40, careful=careful)
                self.assertEqual(len(told), 40)
                self.assertEqual(greatest_by_sizes(book, 17, careful=careful), told[:17])
                for size in (11, 29, 40):
                    tree = worst_of_size(book, size, careful=careful)
                    self.assertIs(tree is None, told[size - 1] is None)
                    if tree is not None:
                        self.assertEqual(len(tree), size)
                        self.assertEqual(excess(book, tree, careful=careful), told[size - 1])
        self.assertEqual(greatest_by_sizes(ADDS, 39), tuple(None if size % 2 else size for size in range(39)))

    def test_two_subtrees_of_all_sizes(self):
        # The excess of a row is known, so that of a pair of rows is the greatest sum.
        book = Book.from_lines("op c 0", "op s 1", "op p 2", "goal g", "rule g 0 p r r", "rule r 1 s s s s r",
                               "rule r 1 s s s r", "rule r 1 s r", "rule r 0 c")
        rows = [excess(STEPS, row(size)) for size in range(1, 41)]
        right = [None] * 2
        for size in range(3, 41):
            right.append(max(rows[left] + rows[size - 3 - left] for left in range(size - 2)))
        self.assertEqual(greatest_by_sizes(book, 40), tuple(right))
        self.assertEqual((greatest_excess(book), least_behind(book, 2)), (2, ("p", *SIX, *SIX)))

    def test_the_greatest_excess_is_that_of_all_sizes(self):
        for book in SAMPLES:
            for careful in MODES:
                most = greatest_excess(book, careful=careful)
                told = [number for number in greatest_by_sizes(book, 40, careful=careful) if number is not None]
                if most is not None:
                    self.assertEqual(max(told, default=0), most)

    def test_none_where_no_tree_is_covered(self):
        for book in (RING, NO_TREES, NO_RULES):
            for careful in MODES:
                self.assertEqual(greatest_by_sizes(book, 3, careful=careful), (None,) * 3)
                self.assertEqual(worst_of_size(book, 1, careful=careful), None)
                self.assertEqual(excess_counts(book, 1, careful=careful), {})
                self.assertIsNone(least_behind(book, 0, careful=careful))
        self.assertEqual([count_stuck(book, 1) for book in (RING, NO_TREES, NO_RULES)], [1, 0, 0])


class LeastTest(RefusedTest):
    def test_as_few_places_as_possible(self):
        for book in SAMPLES:
            for careful in MODES:
                told = greatest_by_sizes(book, 40, careful=careful)
                most = greatest_excess(book, careful=careful)
                for number in (0, 1, 2, 3, 5, 8, 21, 49, 50):
                    fits = [size for size in range(1, 41) if told[size - 1] is not None and told[size - 1] >= number]
                    if fits:
                        tree = least_behind(book, number, careful=careful)
                        self.assertEqual(len(tree), fits[0])
                        self.assertGreaterEqual(excess(book, tree, careful=careful), number)
                    elif most is not None:
                        self.assertLess(most, max(number, 1))
                        self.assertIsNone(least_behind(book, number, careful=careful))
                    else:
                        self.assert_refused(TooMany, 40, least_behind, book, number, careful=careful)

    def test_any_number_if_there_is_no_bound(self):
        self.assertEqual([len(least_behind(ADDS, number)) for number in (0, 1, 2, 38)], [1, 3, 3, 39])
        for number in (39, 40, 50):
            self.assert_refused(TooMany, 40, least_behind, ADDS, number)
        for book in SAMPLES:
            if not is_bounded(book):
                for number in range(51):
                    try:
                        self.assertLessEqual(len(least_behind(book, number)), 40)
                    except TooMany as error:
                        self.assertEqual(error.limit, 40)

    def test_just_forty_places_and_one_more(self):
        for pad, places in (("", 39), ("s ", 40), ("s s ", 41)):
            book = Book.from_lines(
                "op c 0", "op s 1", "op p 2", "goal a", "rule a 0 p x p x b", f"rule b 0 {pad}p x p x d",
                "rule x 0 s s s s s s c", "rule d 1 s s s s s s c", "rule d 0 s d", "rule d 0 c",
            )
            self.assertEqual((greatest_excess(book), len(least_behind(book, 0))), (1, places - 6))
            self.assertIsNone(least_behind(book, 2))
            if places <= 40:
                self.assertEqual(len(least_behind(book, 1)), places)
                self.assertEqual(greatest_by_sizes(book, 40)[places - 2:places], (0, 1))
            else:
                self.assert_refused(TooMany, 40, least_behind, book, 1)
                self.assertEqual(max(number or 0 for number in greatest_by_sizes(book, 40)), 0)

    def test_all_trees_have_too_many_places(self):
        for number in (0, 50):
            self.assert_refused(TooMany, 40, least_behind, piled_high("s c"), number)
        self.assertEqual(greatest_by_sizes(piled_high("s c"), 40), (None,) * 40)


class LimitTest(RefusedTest):
    def test_just_twenty_thousand_trees(self):
        few = Book.from_lines("op c 0", "op v 0", "op p 2", "goal r", "rule r 1 p r r", "rule r 0 c")
        for book in (few, ADDS, LOADS, STEPS, SIX_HUNDRED):
            for size in range(1, 41):
                if book.operators.count_trees(size) > 20000:
                    for function in (excess_counts, count_stuck):
                        self.assert_refused(TooMany, 20000, function, book, size)
                elif size < 12:
                    self.assertGreaterEqual(count_stuck(book, size), 0)
                    self.assertLessEqual(sum(excess_counts(book, size).values()), book.operators.count_trees(size))

    def test_many_trees(self):
        # There are 16384 trees of 15 places, and 16796 of 21.
        twos = Book.from_lines("op c 0", "op s 1", "op t 1", "goal r", "rule r 2 s t r", "rule r 0 s r", "rule r 1 t r",
                               "rule r 0 c")
        self.assertEqual(twos.operators.count_trees(15), 16384)
        counts = excess_counts(twos, 15)
        self.assertEqual((sum(counts.values()), count_stuck(twos, 15)), (16384, 0))
        right = Counter(excess(twos, tree) for tree in twos.operators.each_tree(9))
        self.assertEqual(excess_counts(twos, 9), dict(right))
        self.assert_refused(TooMany, 20000, excess_counts, twos, 16)
        book = Book.from_lines("op c 0", "op p 2", "goal r", "rule r 2 p r c", "rule r 1 p r r", "rule r 0 c")
        counts = excess_counts(book, 21)
        self.assertEqual((sum(counts.values()), book.operators.count_trees(21)), (16796, 16796))
        self.assertEqual(max(counts), greatest_by_sizes(book, 21)[-1])
        self.assert_refused(TooMany, 20000, count_stuck, book, 23)
        self.assertEqual((excess_counts(book, 40), count_stuck(book, 40)), ({}, 0))

    def test_trees_in_which_it_is_stuck(self):
        for size in range(1, 8):
            trees = list(LOADS.operators.each_tree(size))
            stuck = [tree for tree in trees if stuck_at(LOADS, tree) is not None and cheapest_price(LOADS, tree) is not None]
            self.assertEqual((count_stuck(LOADS, size), count_stuck(LOADS, size, careful=True)), (len(stuck), 0))
        self.assertEqual(count_stuck(RING, 1, careful=True), 1)


class ErrorsTest(RefusedTest):
    def test_numbers(self):
        for function in BY_SIZE:
            for value in (*others(lambda value: is_plain_integer(value) and 1 <= value <= 40), 0, 41, True, False, -1):
                with self.subTest(function=function, value=value):
                    self.assert_refused(InvalidNumber, value, function, STEPS, value)
        for value in (*others(lambda value: is_plain_integer(value) and 0 <= value <= 50), 51, True, False, -1):
            self.assert_refused(InvalidNumber, value, least_behind, STEPS, value)
        self.assertEqual((len(greatest_by_sizes(STEPS, 40)), least_behind(STEPS, 50)), (40, None))

    def test_errors_in_their_order(self):
        books = wrong_values(InvalidBook, None, STEPS.lines, 5)
        modes = wrong_values(InvalidOperation, 0, 1, None, "True", [])
        for function in FUNCTIONS:
            numbers = wrong_values(InvalidNumber, 51 if function is least_behind else 0, -1, None, True, "1", (), 99)
            call = lambda book, number, careful: function(book, number, careful=careful)
            self.assert_order(call, (STEPS, books), (3, numbers), (True, modes))

    def test_too_many_come_last(self):
        for book, limit, careful in ((SIXTY_ONE, 60, False), (SIXTY_ONE, 60, True), (ONE_MORE, 600, False)):
            for function in FUNCTIONS:
                self.assert_refused(TooMany, limit, function, book, 40, careful=careful)
                self.assert_refused(InvalidNumber, 99, function, book, 99, careful=careful)
                self.assert_refused(InvalidOperation, None, function, book, 40, careful=0)
        # The trees of a size are counted last.
        for function in (excess_counts, count_stuck):
            self.assert_refused(TooMany, 20000, function, ADDS, 39)
            self.assert_refused(InvalidOperation, None, function, ADDS, 39, careful=None)

    def test_other_values(self):
        for value in others(lambda value: isinstance(value, Book)):
            for function in FUNCTIONS:
                self.assert_refused(InvalidBook, None, function, value, 1)
        for value in others(lambda value: value is True or value is False):
            for function in FUNCTIONS:
                self.assert_refused(InvalidOperation, None, function, STEPS, 1, careful=value)


class SharedTest(RefusedTest):
    def test_nothing_is_shared(self):
        told = excess_counts(ADDS, 5)
        told.clear()
        self.assertEqual(excess_counts(ADDS, 5), {0: 6, 2: 8, 4: 2})
        for value in (greatest_by_sizes(ADDS, 5), worst_of_size(ADDS, 5), least_behind(ADDS, 4)):
            self.assertIs(type(value), tuple)

    def test_equal_calls_return_equal_results(self):
        for book in SAMPLES[:14]:
            for careful in MODES:
                for function in (greatest_by_sizes, worst_of_size, excess_counts, count_stuck):
                    self.assertEqual(function(book, 4, careful=careful), function(book, 4, careful=careful))


if __name__ == "__main__":
    unittest.main()
