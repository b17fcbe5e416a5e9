"""Stage 3: books with other rules, prices, orders and names (0.2, 0.4, 3.1)."""

import unittest
from itertools import permutations

from munchbehind.base.books import Book
from munchbehind.base.trees import Operators
from munchbehind.errors import InvalidBook, InvalidNumber, InvalidOperation, UnknownName
from tests.oracles import ADDS, EXAMPLES, LOADS, RING, STEPS, random_book
from tests.refused import RefusedTest, wrong_values
from tests.values import everything, is_plain_integer, others

OPS = Operators({"c": 0, "p": 2, "s": 1, "v": 0})
EMPTY = Book(OPS, "r", ())
MORE = ("r", 2, ("s", "s", "r"))
FULL = Book(OPS, "r", tuple([("r", 1, ("s",) * (at % 6) + ("cv"[at // 6],)) for at in range(12)]))
NO_RULES = (None, (), "rule r 1 c", ["r", 1, ("s", "c")], ("r", 1), ("r", 10, ("s",)), ("r", True, ("s", "c")),
            ("s", 1, ("c",)))


def is_index(book):
    return lambda value: is_plain_integer(value) and 0 <= value < len(book)


class RulesOfTest(RefusedTest):
    def test_each_nonterminal(self):
        for book in (*EXAMPLES, *[random_book(seed) for seed in range(20)], EMPTY):
            for word in book.nonterminals:
                told = tuple(at for at, rule in enumerate(book.rules) if rule[0] == word)
                self.assertEqual(book.rules_of(word), told)
        self.assertEqual((EMPTY.rules_of("r"), RING.rules_of("m"), RING.rules_of("n")), ((), (2,), (0, 1)))

    def test_nonterminals_without_rules(self):
        self.assertEqual(Book(OPS, "r", (("r", 0, ("a",)),)).rules_of("a"), ())

    def test_other_values(self):
        for value in (*everything(), "s", "c", "A", "aa", ("a",), ["a"]):
            if value != "a" and value != "r":
                with self.subTest(value=value):
                    self.assert_refused(UnknownName, value, LOADS.rules_of, value)


class WithRuleTest(RefusedTest):
    def test_behind_all_others(self):
        for book in (STEPS.without_rule(3), EMPTY):
            self.assertEqual(book.with_rule(("r", 5, ("c",))).rules, book.rules + (("r", 5, ("c",)),))
            self.assertEqual(book.with_rule(("r", 5, ("c",)), at=None).rules, book.rules + (("r", 5, ("c",)),))

    def test_at_each_index(self):
        for at in range(len(LOADS) + 1):
            book = LOADS.with_rule(MORE, at=at)
            self.assertEqual(book.rules, LOADS.rules[:at] + (MORE,) + LOADS.rules[at:])
            self.assertEqual(book.rules[at], MORE)
            self.assertEqual(book.without_rule(at), LOADS)
        self.assertEqual(EMPTY.with_rule(MORE, at=0).rules, (MORE,))

    def test_other_nonterminals(self):
        book = EMPTY.with_rule(("b", 0, ("a",)))
        self.assertEqual((book.nonterminals, EMPTY.nonterminals), (("a", "b", "r"), ("r",)))

    def test_no_books(self):
        self.assert_refused(InvalidBook, None, FULL.with_rule, MORE)
        self.assert_refused(InvalidBook, None, FULL.with_rule, MORE, at=12)
        self.assert_refused(InvalidBook, None, LOADS.with_rule, ("r", 9, ("v",)))
        for value in (*others(lambda value: value == ("r", 0, ("c",))), *NO_RULES):
            with self.subTest(value=value):
                self.assert_refused(InvalidBook, None, STEPS.with_rule, value)
                self.assert_refused(InvalidBook, None, STEPS.with_rule, value, at=0)

    def test_numbers_come_ahead(self):
        for at in others(lambda value: value is None or is_plain_integer(value) and 0 <= value <= 4):
            with self.subTest(at=at):
                self.assert_refused(InvalidNumber, at, STEPS.with_rule, ("r", 1, ("s", "c")), at=at)
        call = lambda at, rule: STEPS.with_rule(rule, at=at)
        slots = [(4, wrong_values(InvalidNumber, 5, -1, True, "0", ()))]
        self.assert_order(call, *slots, (("r", 1, ("s", "c")), wrong_values(InvalidBook, *NO_RULES)))
        self.assert_order(call, (None, []), (("r", 1, ("s", "c")), wrong_values(InvalidBook, *NO_RULES)))


class MovedTest(RefusedTest):
    def test_without_each_rule(self):
        for book in EXAMPLES:
            for index in range(len(book)):
                told = book.without_rule(index)
                self.assertEqual(told.rules, book.rules[:index] + book.rules[index + 1:])
                self.assertEqual((told.goal, told.operators), (book.goal, book.operators))
        alone = EMPTY.with_rule(MORE)
        self.assertEqual(alone.without_rule(0), EMPTY)
        self.assertEqual(RING.without_rule(2).without_rule(0).nonterminals, ("n",))

    def test_to_and_fro(self):
        for book in EXAMPLES:
            for index in range(len(book)):
                for to in range(len(book)):
                    told = book.moved(index, to)
                    self.assertEqual(told.rules[to], book.rules[index])
                    left = told.rules[:to] + told.rules[to + 1:]
                    self.assertEqual(left, book.rules[:index] + book.rules[index + 1:])
                    self.assertEqual(told.moved(to, index), book)

    def test_numbers(self):
        for value in (*others(is_index(STEPS)), 4, -1, True, False, None):
            with self.subTest(value=value):
                self.assert_refused(InvalidNumber, value, STEPS.without_rule, value)
                self.assert_refused(InvalidNumber, value, STEPS.moved, value, 0)
                self.assert_refused(InvalidNumber, value, STEPS.moved, 0, value)
                self.assert_refused(InvalidNumber, value, STEPS.with_price, value, 0)
        wrong = wrong_values(InvalidNumber, 4, -1, None, True, "0", 10 ** 60)
        self.assert_order(STEPS.moved, (3, wrong), (0, wrong))
        self.assert_refused(InvalidNumber, 0, EMPTY.without_rule, 0)
        self.assert_refused(InvalidNumber, 0, EMPTY.moved, 0, 0)


class PricesTest(RefusedTest):
    def test_with_price(self):
        for index in range(len(LOADS)):
            for price in range(10):
                name, _, pattern = LOADS.rules[index]
                told = LOADS.rules[:index] + ((name, price, pattern),) + LOADS.rules[index + 1:]
                self.assertEqual(LOADS.with_price(index, price).rules, told)

    def test_no_prices(self):
        for price in others(lambda value: type(value) is int and 0 <= value <= 9):
            with self.subTest(price=price):
                self.assert_refused(InvalidBook, None, LOADS.with_price, 0, price)
        numbers = wrong_values(InvalidNumber, 5, -1, None, False, "0")
        self.assert_order(LOADS.with_price, (4, numbers), (9, wrong_values(InvalidBook, 10, -1, True, None, "1")))

    def test_scaled(self):
        self.assertEqual([rule[1] for rule in ADDS.scaled(3).rules], [9, 3, 0, 0])
        self.assertEqual(ADDS.scaled(1), ADDS)
        self.assertEqual([rule[1] for rule in ADDS.scaled(0).rules], [0, 0, 0, 0])
        self.assertEqual([rule[::2] for rule in ADDS.scaled(2).rules], [rule[::2] for rule in ADDS.rules])
        self.assertEqual(ADDS.scaled(0).scaled(10 ** 60 - 1), ADDS.scaled(0))
        self.assertEqual(EMPTY.scaled(12), EMPTY)
        self.assertEqual(STEPS.scaled(9).rules[0][1], 9)

    def test_scaled_too_far(self):
        for number in (4, 5, 100, 10 ** 60 - 1):
            self.assert_refused(InvalidBook, None, ADDS.scaled, number)
        self.assert_refused(InvalidBook, None, STEPS.scaled, 10)

    def test_numbers(self):
        for value in others(lambda value: is_plain_integer(value) and value >= 0):
            with self.subTest(value=value):
                for book in (ADDS, EMPTY, ADDS.scaled(0)):
                    self.assert_refused(InvalidNumber, value, book.scaled, value)


class OrderedTest(RefusedTest):
    def test_all_orders(self):
        for book in EXAMPLES:
            for order in permutations(range(len(book))):
                told = book.ordered(order)
                self.assertEqual(told.rules, tuple(book.rules[index] for index in order))
                self.assertEqual(told.lines[:-len(book)], book.lines[:-len(book)])
        self.assertEqual(EMPTY.ordered(()), EMPTY)
        self.assertEqual(ADDS.ordered((1, 0, 2, 3)), ADDS.moved(0, 1))

    def test_no_orders(self):
        wrong = [(), (0, 1), (0, 1, 2, 2), (0, 1, 3), (-1, 0, 1, 2), (1, 2, 3, 4), (0, 1, 2, 3, 0), (0, True, 2, 3)]
        wrong += [(False, 1, 2, 3), [0, 1, 2, 3], "0123", range(4), (0, 1, 2, 3, 4), (0, 1, 2, "3"), (0, 1, 2, None)]
        wrong += [((0, 1, 2, 3),), (0, 1, 2, (3,)), (0, 1, 2, [3]), (3, 2, 1, 10 ** 60), {0: 0, 1: 1, 2: 2, 3: 3}]
        for order in (*wrong, *everything()):
            with self.subTest(order=order):
                self.assert_refused(InvalidOperation, None, STEPS.ordered, order)
        for order in others(lambda value: value == ()):
            self.assert_refused(InvalidOperation, None, EMPTY.ordered, order)

    def test_largest_first(self):
        self.assertEqual(LOADS.largest_first().rules[-1], ("r", 1, ("a",)))
        self.assertEqual(LOADS.largest_first(), LOADS)
        self.assertEqual(STEPS.moved(0, 3).largest_first(), STEPS.ordered((0, 1, 2, 3)))
        self.assertEqual(RING.largest_first().rules, (RING.rules[1], RING.rules[0], RING.rules[2]))
        self.assertEqual(EMPTY.largest_first(), EMPTY)

    def test_operators_are_counted_alone(self):
        patterns = [("a",), ("p", "a", "a"), ("s", "c"), ("s", "a"), ("p", "c", "a"), ("c",), ("p", "p", "a", "a", "a")]
        book = Book(OPS, "r", tuple([("r", 0, pattern) for pattern in patterns]))
        told = [("s", "c"), ("p", "c", "a"), ("p", "p", "a", "a", "a"), ("p", "a", "a"), ("s", "a"), ("c",), ("a",)]
        self.assertEqual([rule[2] for rule in book.largest_first().rules], told)


class RenamedTest(RefusedTest):
    def test_new_names(self):
        book = LOADS.renamed({"c": "x", "v": "y", "s": "z", "r": "k", "a": "l"})
        told = ("op x 0", "op y 0", "op z 1", "goal k", "rule k 1 z l", "rule k 2 z k", "rule k 1 y", "rule l 0 x",
                "rule k 1 l")
        self.assertEqual(book.lines, told)
        back = {"x": "c", "y": "v", "z": "s", "k": "r", "l": "a"}
        self.assertEqual(book.renamed(back), LOADS)

    def test_exchanged_names(self):
        same = {"c": "c", "v": "v", "s": "s", "r": "r", "a": "a"}
        self.assertEqual(LOADS.renamed(same), LOADS)
        book = LOADS.renamed({"c": "v", "v": "c", "s": "r", "r": "s", "a": "a"})
        told = ("op c 0", "op r 1", "op v 0", "goal s", "rule s 1 r a", "rule s 2 r s", "rule s 1 c", "rule a 0 v",
                "rule s 1 a")
        self.assertEqual(book.lines, told)

    def test_books_without_rules(self):
        told = EMPTY.renamed({"c": "p", "p": "c", "s": "t", "v": "r", "r": "v"})
        self.assertEqual(told.lines, ("op c 2", "op p 0", "op r 0", "op t 1", "goal v"))

    def test_no_new_names(self):
        right = {"c": "x", "n": "y", "m": "z"}
        self.assertEqual(RING.renamed(right).lines[0], "op x 0")
        wrong = [{**right, "o": "w"}, {}, {"x": "c", "y": "n", "z": "m"}, {**right, 0: "w"}, {**right, None: "w"}]
        wrong += [{**right, "m": value}
                  for value in ("x", "y", "Z", "", "abcdefghi", "_", 0, None, True, ("z",), ["z"], {})]
        wrong += [{name: right[name] for name in right if name != left} for left in right]
        wrong += [{"c": "x", "n": "y", 0: "z"}, {"c": "x", "n": "y", ("m",): "z"}, {"c": "x", "n": "y", "o": "z"}]
        wrong += [tuple(right.items()), list(right), "cnm", ("c", "n", "m")]
        for value in (*wrong, *everything()):
            with self.subTest(value=value):
                self.assert_refused(InvalidOperation, None, RING.renamed, value)


class NeverChangesTest(RefusedTest):
    def test_the_elder_book_stays(self):
        for book in EXAMPLES:
            lines = book.lines
            names = {word: word * 2 for word in (*book.operators.names, *book.nonterminals)}
            book.with_rule((book.goal, 9, ("c",) if "c" not in str(book.rules) else ("other",)), at=0)
            book.without_rule(0)
            book.moved(0, len(book) - 1)
            book.with_price(0, 9)
            book.scaled(0)
            book.ordered(tuple(reversed(range(len(book)))))
            book.largest_first()
            book.renamed(names)
            for told in (0, None, ("r", 1, ("s", "r"))):
                self.assertRaises(InvalidBook, book.with_rule, told if told == 0 else book.rules[0])
            self.assertEqual((book.lines, Book.from_lines(*lines) == book), (lines, True))

    def test_arguments_stay(self):
        names = {"c": "x", "n": "y", "m": "z"}
        RING.renamed(names)
        self.assertEqual(names, {"c": "x", "n": "y", "m": "z"})

    def test_equal_calls_return_equal_results(self):
        for _ in range(2):
            self.assertEqual(STEPS.moved(2, 0).rules[0], ("r", 1, ("s", "r")))
            self.assertEqual(STEPS.with_rule(("r", 0, ("s", "c"))), STEPS.with_rule(("r", 0, ("s", "c")), at=4))


if __name__ == "__main__":
    unittest.main()
