"""Stage 5: covers of trees (0.2, 0.4, 0.5, 0.10)."""

import unittest
from itertools import islice

from munchbehind.base.books import Book
from munchbehind.cover.covers import (
    chain_price, cheapest, cheapest_price, count_covers, cover_at, cover_price, each_cover, is_cover, number_of_cover,
    tiles,
)
from munchbehind.errors import InvalidBook, InvalidCover, InvalidNumber, InvalidTree, NotCovered, UnknownName
from tests.oracles import ADDS, EXAMPLES, LOADS, RING, SIXTY_ONE, STEPS, Truth, made_trees, random_book
from tests.refused import RefusedTest, wrong_values
from tests.values import everything, is_plain_integer, others

SIX = ("s",) * 6 + ("c",)
ROUND = Book.from_lines(
    "op c 0", "op s 1", "goal a", "rule a 1 b", "rule b 2 d", "rule d 3 a", "rule b 1 a", "rule d 0 b", "rule a 0 s d",
    "rule a 5 c", "rule b 4 c", "rule d 9 c", "rule b 1 s b",
)
WIDE = Book.from_lines(
    "op c 0", "op v 0", "op p 2", "goal r", "rule r 1 p r r", "rule r 1 p r a", "rule r 3 p p r c a", "rule a 1 r",
    "rule a 0 c", "rule r 0 v", "rule r 2 c", "rule b 0 p b b",
)
SAMPLES = (*EXAMPLES, ROUND, WIDE, *[random_book(seed, 9, 6, 3) for seed in range(20)])
NO_BOOKS = others(lambda value: isinstance(value, Book))


def starts(book):
    return (None, *book.nonterminals)


class AllCoversTest(RefusedTest):
    def samples(self, places=5, most=150):
        for book in SAMPLES:
            truth = Truth(book)
            for tree in made_trees(book, places)[:most]:
                for start in starts(book):
                    right = truth.covers(tree, start or book.goal)
                    if len(right) < 400:
                        yield book, truth, tree, start, right

    def test_all_covers(self):
        for book, _, tree, start, right in self.samples():
            with self.subTest(book=book.lines, tree=tree, start=start):
                self.assertEqual(list(each_cover(book, tree, start=start)), right)
                self.assertEqual(count_covers(book, tree, start=start), len(right))

    def test_prices(self):
        for book, truth, tree, start, right in self.samples():
            prices = [truth.price(cover) for cover in right]
            self.assertEqual(cheapest_price(book, tree, start=start), min(prices, default=None))
            self.assertEqual([cover_price(book, tree, cover, start=start) for cover in right[:30]], prices[:30])
            if right:
                cover = cheapest(book, tree, start=start)
                self.assertIn(cover, right)
                self.assertEqual(truth.price(cover), min(prices))
            else:
                self.assert_refused(NotCovered, tree, cheapest, book, tree, start=start)

    def test_numbers(self):
        for book, _, tree, start, right in self.samples(5, 60):
            told = [cover_at(book, tree, number, start=start) for number in range(len(right))]
            self.assertEqual(told, right)
            self.assertEqual([number_of_cover(book, tree, cover, start=start) for cover in right],
                             list(range(len(right))))
            for number in (len(right), len(right) + 1, -1):
                self.assert_refused(InvalidNumber, number, cover_at, book, tree, number, start=start)

    def test_every_other_row_of_rules_is_no_cover(self):
        for book, _, tree, start, right in self.samples(3, 12):
            for cover in right[:20]:
                self.assertIs(is_cover(book, tree, cover, start=start), True)
                near = [cover[:at] + (index,) + cover[at + 1:] for at in range(len(cover))
                        for index in range(len(book))]
                near += [cover[:at] + cover[at + 1:] for at in range(len(cover))]
                near += [cover[:at] + (index,) + cover[at:] for at in range(len(cover) + 1)
                         for index in range(len(book))]
                near += [cover[:at] + cover[at + 1:at + 2] + cover[at:at + 1] + cover[at + 2:]
                         for at in range(len(cover))]
                for value in near:
                    self.assertIs(is_cover(book, tree, value, start=start), value in right)

    def test_tiles(self):
        for book, truth, tree, start, right in self.samples(5, 60):
            for cover in right[:15]:
                told = tiles(book, tree, cover, start=start)
                self.assertEqual(tuple(index for _, index in told), cover)
                prices = [0] * len(tree)
                for place, index in told:
                    prices[place] += book.rules[index][1]
                    self.assertIsNotNone(truth.leaves(book.rules[index][2], tree, place))
                self.assertEqual(tuple(prices), truth.sides(tree, cover, start or book.goal)[1])
                self.assertEqual([place for place, _ in told], sorted(place for place, _ in told))

    def test_results_are_tuples(self):
        told = (cheapest(STEPS, SIX), tiles(STEPS, SIX, (1, 1, 3)), cover_at(STEPS, SIX, 0), *each_cover(STEPS, SIX))
        self.assertTrue(all(type(value) is tuple for value in (*told, tiles(STEPS, SIX, (1, 1, 3))[0])))


class ExamplesTest(RefusedTest):
    def test_examples(self):
        self.assertEqual((cheapest(STEPS, SIX), cheapest_price(STEPS, SIX)), ((1, 1, 3), 2))
        self.assertEqual((cover_price(STEPS, SIX, (0, 2, 2, 3)), is_cover(STEPS, SIX, (0, 1, 3))), (3, False))
        self.assertEqual(tiles(STEPS, SIX, (1, 1, 3)), ((0, 1), (3, 1), (6, 3)))
        self.assertEqual((count_covers(STEPS, SIX), list(each_cover(LOADS, ("s", "c")))), (9, [(0, 3), (1, 4, 3)]))
        self.assertIs(cheapest_price(LOADS, ("v",), start="a"), None)
        self.assertEqual((chain_price(LOADS, "r", "a"), list(each_cover(RING, ("c",)))), (1, [(1,)]))

    def test_chain_rules_round_and_round(self):
        # Each nonterminal is given once at a place.
        self.assertEqual(list(each_cover(RING, ("c",), start="m")), [(2, 1)])
        self.assertIs(is_cover(RING, ("c",), (0, 2, 1)), False)
        self.assertIs(is_cover(RING, ("c",), (2, 0, 2, 1), start="m"), False)
        self.assertEqual(list(each_cover(ROUND, ("c",))), [(0, 1, 7 + 1), (0, 7), (6,)])
        self.assertEqual(list(each_cover(ROUND, ("c",), start="d")), [(2, 0, 7), (2, 6), (4, 3, 6), (4, 7), (8,)])
        self.assertEqual(cheapest_price(ROUND, ("c",), start="d"), 4)
        self.assertIs(is_cover(ROUND, ("c",), (0, 3, 6)), False)
        self.assertIs(is_cover(ROUND, ("c",), (0, 1, 2, 6)), False)
        # At a leaf they may be given again.
        self.assertIs(is_cover(ROUND, ("s", "c"), (0, 1, 2, 5, 8)), False)
        self.assertIs(is_cover(ROUND, ("s", "c"), (5, 4, 3, 6)), True)
        self.assertIs(is_cover(ROUND, ("s", "c"), (0, 9, 3, 6)), True)

    def test_starts(self):
        self.assertEqual(list(each_cover(LOADS, ("c",), start="a")), [(3,)])
        self.assertEqual(list(each_cover(LOADS, ("c",), start="r")), [(4, 3)])
        self.assertEqual(list(each_cover(LOADS, ("c",), start=None)), [(4, 3)])
        self.assertIs(is_cover(LOADS, ("c",), (4, 3), start="a"), False)
        self.assertIs(is_cover(LOADS, ("c",), (3,)), False)

    def test_trees_without_covers(self):
        for book, tree, start in ((LOADS, ("v",), "a"), (LOADS, ("s", "v"), "a"), (WIDE, ("c",), "b"),
                                  (SIXTY_ONE, ("p", "c", "c"), "b")):
            if Truth(book).covers(tree, start):
                continue
            self.assert_refused(NotCovered, tree, cheapest, book, tree, start=start)
            self.assertIs(cheapest_price(book, tree, start=start), None)
            self.assertEqual((count_covers(book, tree, start=start), list(each_cover(book, tree, start=start))),
                             (0, []))
            self.assert_refused(InvalidNumber, 0, cover_at, book, tree, 0, start=start)
            self.assertIs(is_cover(book, tree, (), start=start), False)
        empty = Book.from_lines("op c 0", "goal r")
        self.assert_refused(NotCovered, ("c",), cheapest, empty, ("c",))
        self.assertEqual((count_covers(empty, ("c",)), cheapest_price(empty, ("c",))), (0, None))


class JudgedTest(RefusedTest):
    def test_every_value_is_judged(self):
        odd = [(1, 1, True), (1, True, 3), [1, 1, 3], "113", (1, 1, 3, 3), (1, 1), (1, 3, 1), (-3, 1, 3),
               (1, 1, -1)]
        odd += [(1, 1, None), (1, 1, "3"), (1, 1, (3,)), (1, 1, [3]), ((1, 1, 3),), (1, 1, 4), (1, 1, 10 ** 60),
                {1: 1}, (), None]
        for value in (*everything(), *odd):
            with self.subTest(value=value):
                self.assertIs(is_cover(STEPS, SIX, value), value == (0, 2, 2, 3) and type(value) is tuple)
                if value != (0, 2, 2, 3):
                    for function in (cover_price, tiles, number_of_cover):
                        self.assert_refused(InvalidCover, None, function, STEPS, SIX, value)
        self.assertIs(is_cover(STEPS, SIX, (0, 2, 2, 3)), True)

    def test_true_and_false_are_no_rules(self):
        self.assertIs(is_cover(RING, ("c",), (1,)), True)
        self.assertIs(is_cover(RING, ("c",), (True,)), False)
        self.assertIs(is_cover(STEPS, ("s", "s", "s", "s", "c"), (0, 3)), True)
        self.assertIs(is_cover(STEPS, ("s", "s", "s", "s", "c"), (False, 3)), False)

    def test_numbers(self):
        for value in others(lambda value: is_plain_integer(value) and 0 <= value < 9):
            with self.subTest(value=value):
                self.assert_refused(InvalidNumber, value, cover_at, STEPS, SIX, value)
        for value in (9, -1, True, None, "0"):
            self.assert_refused(InvalidNumber, value, cover_at, STEPS, SIX, value)

    def test_starts(self):
        for value in (*everything(), "s", "c", "goal", ""):
            if value is None or value == "r":
                continue
            with self.subTest(value=value):
                for function in (cheapest, cheapest_price, count_covers):
                    self.assert_refused(UnknownName, value, function, STEPS, SIX, start=value)
                self.assert_refused(UnknownName, value, is_cover, STEPS, SIX, (1, 1, 3), start=value)

    def test_books_and_trees(self):
        for value in NO_BOOKS:
            self.assert_refused(InvalidBook, None, is_cover, value, SIX, None)
            self.assert_refused(InvalidBook, None, cheapest, value, SIX)
        for value in others(lambda value: value == ("c",)):
            self.assert_refused(InvalidTree, None, is_cover, STEPS, value, None)
            self.assert_refused(InvalidTree, None, count_covers, STEPS, value)

    def test_errors_in_their_order(self):
        slots = [
            (STEPS, wrong_values(InvalidBook, None, STEPS.lines, "STEPS")),
            (SIX, wrong_values(InvalidTree, ("s",), None, list(SIX), ("v",))),
            ("r", wrong_values(UnknownName, "c", "a", 0, ("r",), [])),
        ]
        cover = ((1, 1, 3), wrong_values(InvalidCover, (1, 1), None, (True, 1, 3), (3,)))
        self.assert_order(lambda book, tree, start: is_cover(book, tree, None, start=start), *slots)
        for function in (cheapest_price, count_covers, cheapest):
            self.assert_order(lambda book, tree, start: function(book, tree, start=start), *slots)
        self.assert_order(lambda book, tree, start: list(each_cover(book, tree, start=start)), *slots)
        for function in (cover_price, tiles, number_of_cover):
            self.assert_order(lambda book, tree, start, told: function(book, tree, told, start=start), *slots, cover)
        number = (8, wrong_values(InvalidNumber, 9, -1, None, True, "1"))
        self.assert_order(lambda book, tree, start, told: cover_at(book, tree, told, start=start), *slots, number)
        for start in (0, "c", ()):
            self.assert_refused(UnknownName, start, cheapest, WIDE, ("c",), start=start)

    def test_right_starts_beside_wrong_covers(self):
        for start in (None, "r"):
            self.assert_refused(InvalidCover, None, cover_price, STEPS, SIX, (), start=start)


class EachCoverTest(RefusedTest):
    def test_errors_come_when_asked(self):
        told = each_cover(None, SIX)
        self.assert_refused(InvalidBook, None, next, told)
        told = each_cover(STEPS, ("v",))
        self.assert_refused(InvalidTree, None, next, told)
        told = each_cover(STEPS, SIX, start="x")
        self.assert_refused(UnknownName, "x", next, told)

    def test_it_is_a_generator(self):
        told, other = each_cover(STEPS, SIX), each_cover(STEPS, SIX)
        self.assertIs(iter(told), told)
        self.assertEqual((next(told), next(told), next(other), next(told)),
                         ((0, 2, 2, 3), (1, 1, 3), (0, 2, 2, 3), (1, 2, 2, 2, 3)))

    def test_first_ones_of_many_come_at_once(self):
        tree = ("s",) * 4999 + ("c",)
        first = list(islice(each_cover(STEPS, tree), 12))
        self.assertEqual(first, [cover_at(STEPS, tree, number) for number in range(12)])
        tree = ("p",) * 2499 + ("c", "v") * 1250
        first = list(islice(each_cover(WIDE, tree), 12))
        self.assertEqual(first, [cover_at(WIDE, tree, number) for number in range(12)])

    def test_dead_ends_take_no_time(self):
        # From a and from b no row that ends in v is covered, which tells only at its end.
        book = Book.from_lines(
            "op c 0", "op v 0", "op s 1", "goal r", "rule r 0 s a", "rule r 0 s b", "rule a 0 s a", "rule a 0 s b",
            "rule b 0 s a", "rule b 0 s b", "rule a 0 c", "rule b 0 c", "rule r 0 v", "rule r 1 s r",
        )
        tree = ("s",) * 200 + ("v",)
        self.assertEqual(list(each_cover(book, tree)), [(9,) * 200 + (8,)])
        self.assertEqual(len(list(islice(each_cover(book, ("s",) * 200 + ("c",)), 5))), 5)

    def test_later_ones_are_not_made_first(self):
        tree = ("p",) * 30 + ("c",) * 31
        seen = list(islice(each_cover(WIDE, tree), 2000))
        self.assertEqual(seen, sorted(set(seen)))
        self.assertEqual([number_of_cover(WIDE, tree, cover) for cover in seen[::97]], list(range(2000))[::97])
        self.assertGreater(count_covers(WIDE, tree), 10 ** 12)


class LongTest(RefusedTest):
    trees = (
        (STEPS, ("s",) * 4999 + ("c",)), (WIDE, ("p",) * 2499 + ("c",) * 2500), (WIDE, ("p", "c") * 2499 + ("v",)),
        (ADDS, ("p",) * 2499 + ("c", "v") * 1250), (ROUND, ("s",) * 4999 + ("c",)), (ADDS, ("p", "v") * 2499 + ("c",)),
    )

    def test_astronomically_many_covers(self):
        for book, tree in self.trees:
            many = count_covers(book, tree)
            asked = {0, 1, 2, 12345, 10 ** 30 + 7, 10 ** 59, 10 ** 60 - 1, many - 1}
            numbers = sorted(number for number in asked if number < min(many, 10 ** 60))
            covers = [cover_at(book, tree, number) for number in numbers]
            self.assertEqual(covers, sorted(set(covers)))
            self.assertEqual([number_of_cover(book, tree, cover) for cover in covers], numbers)
            self.assertTrue(all(is_cover(book, tree, cover) for cover in covers))
            for number in (10 ** 60, many if many < 10 ** 60 else 10 ** 61):
                self.assert_refused(InvalidNumber, number, cover_at, book, tree, number)

    def test_many_covers_are_counted(self):
        # Rows of three by threes, ones and fours.
        counts = [1]
        for places in range(1, 5000):
            counts.append(sum(counts[places - step] for step in (1, 3, 4) if places >= step))
        self.assertEqual(count_covers(STEPS, ("s",) * 4999 + ("c",)), counts[4999])
        self.assertGreater(counts[4999], 10 ** 800)
        tree = ("s",) * 4999 + ("c",)
        self.assertEqual(number_of_cover(STEPS, tree, (2,) * 4999 + (3,)), counts[4999] - 1)

    def test_cheapest_prices(self):
        self.assertEqual(cheapest_price(STEPS, ("s",) * 4999 + ("c",)), 1250)
        self.assertEqual(cheapest_price(ADDS, ("p",) * 2499 + ("c",) * 2500), 2499)
        for book, tree in self.trees:
            cover = cheapest(book, tree)
            self.assertEqual(cover_price(book, tree, cover), cheapest_price(book, tree))
            self.assertEqual(tuple(index for _, index in tiles(book, tree, cover)), cover)

    def test_covers_longer_than_trees(self):
        chain = Book.from_lines("op c 0", "op s 1", "goal a", "rule a 1 b", "rule b 1 d", "rule d 1 s a", "rule d 2 c")
        tree = ("s",) * 4999 + ("c",)
        cover = (0, 1, 2) * 4999 + (0, 1, 3)
        self.assertEqual((cheapest(chain, tree), cover_price(chain, tree, cover)), (cover, 15001))
        self.assertEqual((list(each_cover(chain, tree)), count_covers(chain, tree)), ([cover], 1))
        self.assertEqual((number_of_cover(chain, tree, cover), cover_at(chain, tree, 0)), (0, cover))
        self.assertIs(is_cover(chain, tree, cover[:-1]), False)


class ChainTest(RefusedTest):
    def test_ways(self):
        self.assertEqual([chain_price(ROUND, "a", word) for word in "abd"], [0, 1, 3])
        self.assertEqual([chain_price(ROUND, "b", word) for word in "abd"], [1, 0, 2])
        self.assertEqual([chain_price(ROUND, "d", word) for word in "abd"], [1, 0, 0])
        self.assertEqual([chain_price(RING, one, other) for one in "mn" for other in "mn"], [0, 0, 0, 0])
        self.assertIs(chain_price(LOADS, "a", "r"), None)
        self.assertEqual((chain_price(LOADS, "r", "r"), chain_price(STEPS, "r", "r")), (0, 0))

    def test_each_pair(self):
        for book in SAMPLES:
            for one in book.nonterminals:
                best = {one: 0}
                for _ in range(8):
                    for name, price, pattern in book.rules:
                        if name in best and pattern[0] in book.nonterminals:
                            best[pattern[0]] = min(best.get(pattern[0], 999), best[name] + price)
                for other in book.nonterminals:
                    self.assertEqual(chain_price(book, one, other), best.get(other))

    def test_dear_short_ways_and_cheap_long_ones(self):
        book = Book.from_lines("op c 0", "goal a", "rule a 9 e", "rule a 1 b", "rule b 1 d", "rule d 1 e",
                               "rule a 4 d", "rule b 7 e")
        self.assertEqual([chain_price(book, "a", word) for word in "abde"], [0, 1, 2, 3])
        self.assertEqual([chain_price(book, "e", word) for word in "abde"], [None, None, None, 0])

    def test_errors_in_their_order(self):
        names = wrong_values(UnknownName, "c", "b", "", 0, None, ("r",), ["r"])
        books = wrong_values(InvalidBook, None, LOADS.lines)
        self.assert_order(chain_price, (LOADS, books), ("r", names), ("a", names))
        for value in everything():
            if value != "a":
                self.assert_refused(UnknownName, value, chain_price, LOADS, value, None)
                self.assert_refused(UnknownName, value, chain_price, LOADS, "a", value)


class UnchangedTest(RefusedTest):
    def test_equal_calls_return_equal_results(self):
        for book, tree in ((STEPS, SIX), (WIDE, ("p", "c", "p", "v", "c")), (ROUND, ("s", "s", "c"))):
            lines = book.lines
            told = [(cheapest(book, tree), count_covers(book, tree), list(each_cover(book, tree))) for _ in range(3)]
            self.assertEqual(told[0], told[1])
            self.assertEqual(told[1], told[2])
            self.assertEqual(book.lines, lines)


if __name__ == "__main__":
    unittest.main()
