"""Stage 13: orders of rules (0.2, 0.4, 0.17, 13.1, 13.2, 13.3)."""

import unittest
from itertools import permutations
from math import factorial
from random import Random

from munchbehind.base.books import Book
from munchbehind.cover.greedy import greedy_price
from munchbehind.decide.orders import best_orders, count_orders, each_order, lead, lead_tree, verdict
from munchbehind.decide.papers import greatest_excess
from munchbehind.decide.stuck import is_never_stuck
from munchbehind.errors import InvalidBook, InvalidOperation, TooMany
from tests.deciding import FREE, MODES, NO_RULES, NO_TREES, SAMPLES
from tests.oracles import ADDS, LOADS, ONE_MORE, RING, SIXTY, SIXTY_ONE, STEPS, Truth, made_trees
from tests.refused import RefusedTest, wrong_values
from tests.values import others

# Seven rules of one nonterminal, and one more of another; six rules each of the first two would be too many.
MANY = Book.from_lines("op c 0", "op s 1", "goal r", *["rule r 1 " + "s " * at + "c" for at in range(6)])
MORE = MANY.with_rule(("r", 1, ("s", "r")))
TWICE = MANY.with_rule(("a", 1, ("c",))).with_rule(("a", 1, ("s", "a")))
NO_ORDERS = (None, (), (0,), [0, 1, 2, 3], (0, 1, 2), (0, 1, 2, 2), (0, 1, 2, 4), (0, 1, 2, True), (0, 1, 2, -1), "0123")


def is_order(book, value):
    """Whether a permutation is an order of a book, by the words of the document."""
    return all(book.rules[index][0] == book.rules[at][0] for at, index in enumerate(value))


def all_orders(book):
    return [order for order in permutations(range(len(book))) if is_order(book, order)]


def better(one, other):
    """Whether a verdict is better than another one."""
    if one[0] != other[0]:
        return one[0]
    if one[1] is None or other[1] is None:
        return other[1] is None and one[1] is not None
    return one[1] < other[1]


class OrdersTest(RefusedTest):
    def test_examples(self):
        told = [
            count_orders(LOADS), list(each_order(RING)), verdict(LOADS, (0, 1, 2, 3, 4)), verdict(ADDS, (1, 0, 2, 3)),
            best_orders(STEPS),
        ]
        best = ((0, 1, 2, 3), (0, 1, 3, 2), (0, 3, 1, 2), (3, 0, 1, 2))
        self.assertEqual(told, [24, [(0, 1, 2), (1, 0, 2)], (False, 0), (True, 0), ((True, 1), best)])
        one, other = (0, 1, 2, 3), (1, 0, 2, 3)
        told = [lead(ADDS, one, other), lead(ADDS, other, one), len(lead_tree(ADDS, one, other))]
        self.assertEqual((told, lead(STEPS, one, (0, 1, 3, 2))), ([None, 0, 3], 0))

    def test_all_orders(self):
        for book in SAMPLES:
            if len(book) <= 7:
                right = all_orders(book)
                self.assertEqual(count_orders(book), len(right))
                if len(right) <= 720:
                    self.assertEqual(list(each_order(book)), right)
        self.assertEqual((list(each_order(NO_RULES)), count_orders(NO_RULES)), ([()], 1))

    def test_counts(self):
        for book in SAMPLES:
            many = 1
            for word in book.nonterminals:
                many *= factorial(len(book.rules_of(word)))
            self.assertEqual(count_orders(book), many)
        full = Book.from_lines("op c 0", "op s 1", "op t 1", "goal r", *[
            f"rule r 1 {name} " + "s " * at + "c" for name in "st" for at in range(5)], "rule r 0 c", "rule r 0 t r")
        self.assertEqual(count_orders(full), factorial(12))

    def test_just_seven_hundred_and_twenty(self):
        self.assertEqual((count_orders(MANY), count_orders(TWICE), count_orders(MORE)), (720, 1440, 5040))
        orders = list(each_order(MANY))
        self.assertEqual((len(orders), orders[0], orders[-1]), (720, tuple(range(6)), tuple(range(6))[::-1]))
        self.assertEqual(orders, sorted(set(orders)))
        for book in (TWICE, MORE):
            self.assert_refused(TooMany, 720, lambda: next(each_order(book)))
            self.assert_refused(TooMany, 720, best_orders, book)
            self.assert_refused(InvalidOperation, None, best_orders, book, careful=0)

    def test_one_by_one(self):
        found = each_order(STEPS)
        self.assertEqual([next(found), next(found), len(list(found))], [(0, 1, 2, 3), (0, 1, 3, 2), 22])
        # Errors are raised when the first result is asked for.
        for value in (None, TWICE, 5):
            made = each_order(value)
            self.assertRaises(TooMany if value is TWICE else InvalidBook, next, made)


class VerdictTest(RefusedTest):
    def test_the_book_in_each_order(self):
        rng = Random(8)
        for book in SAMPLES:
            if count_orders(book) > 720:
                continue
            orders = list(each_order(book))
            for order in rng.sample(orders, min(6, len(orders))):
                for careful in MODES:
                    other = book.ordered(order)
                    right = (is_never_stuck(other, careful=careful), greatest_excess(other, careful=careful))
                    self.assertEqual(verdict(book, order, careful=careful), right)
                    self.assertIs(type(verdict(book, order, careful=careful)), tuple)

    def test_best_orders(self):
        seen = set()
        for book in SAMPLES:
            if count_orders(book) > 150:
                continue
            for careful in MODES:
                verdicts = {order: verdict(book, order, careful=careful) for order in each_order(book)}
                best, orders = best_orders(book, careful=careful)
                self.assertEqual(orders, tuple(order for order in verdicts if verdicts[order] == best))
                self.assertGreater(len(orders), 0)
                for told in verdicts.values():
                    self.assertTrue(told == best or better(best, told))
                    self.assertFalse(better(told, best))
                seen.add((best[0], best[1] is None, len(orders) < len(verdicts)))
        self.assertGreater(len(seen), 2)

    def test_never_stuck_comes_first(self):
        # The only order in which the blind selector is not stuck has no bound.
        book = Book.from_lines("op c 0", "op v 0", "op s 1", "goal r", "rule r 0 s s a", "rule r 1 s r", "rule r 0 c",
                               "rule r 0 v", "rule a 0 c", "rule a 0 s s a")
        best, orders = best_orders(book)
        self.assertEqual(best, (True, None))
        self.assertTrue(all(order.index(1) < order.index(0) for order in orders))
        self.assertEqual(verdict(book, (0, 1, 2, 3, 4, 5))[0], False)

    def test_many_orders(self):
        self.assertEqual((best_orders(MANY)[0], len(best_orders(MANY)[1])), ((True, 0), 720))
        book = Book.from_lines("op c 0", "op s 1", "op p 2", "goal r", "rule r 4 p p r r r", "rule r 1 s s r",
                               "rule r 2 s r", "rule r 3 p r r", "rule r 1 p s r r", "rule r 0 c")
        best, orders = best_orders(book)
        right = {order: verdict(book, order) for order in list(each_order(book))[::60]}
        self.assertTrue(all((order in orders) == (told == best) for order, told in right.items()))

    def test_books_without_rules_and_trees(self):
        self.assertEqual((best_orders(NO_RULES), verdict(NO_RULES, ())), (((True, 0), ((),)), (True, 0)))
        self.assertEqual(verdict(NO_TREES, (0,)), (True, 0))
        self.assertEqual((best_orders(RING), verdict(RING, (1, 0, 2))), (((True, 0), ((1, 0, 2),)), (True, 0)))


class LeadTest(RefusedTest):
    def pairs_of_orders(self, many=3):
        rng = Random(6)
        for book in SAMPLES:
            if 1 < count_orders(book) <= 720:
                orders = list(each_order(book))
                for _ in range(many):
                    yield book, rng.choice(orders), rng.choice(orders)

    def test_all_small_trees(self):
        numbers = set()
        for book, one, other in self.pairs_of_orders():
            for careful in MODES:
                truths = [Truth(book.ordered(order)) for order in (one, other)]
                most = lead(book, one, other, careful=careful)
                told = lead_tree(book, one, other, careful=careful)
                first = None
                trees = made_trees(book, 6)[:120]
                for tree in trees:
                    covers = [truth.greedy(tree, book.goal, careful)[0] for truth in truths]
                    if None in covers:
                        continue
                    more = truths[0].price(covers[0]) - truths[1].price(covers[1])
                    self.assertTrue(most is None or more <= most)
                    if more > 0 and first is None:
                        first = len(tree)
                numbers.add(most)
                self.assertIs(told is None, most == 0)
                if told is not None:
                    prices = [greedy_price(book.ordered(order), told, careful=careful) for order in (one, other)]
                    self.assertGreater(prices[0], prices[1])
                    self.assertTrue(len(told) == first if first else len(told) >= len(trees[-1]))
        self.assertGreater(len(numbers), 3)
        self.assertIn(None, numbers)

    def test_the_least_number(self):
        # From one order to the other the rows of four and of three are exchanged.
        book = Book.from_lines("op c 0", "op s 1", "goal r", "rule r 1 s s s s r", "rule r 1 s s s r", "rule r 1 s r",
                               "rule r 0 c")
        one, other = (0, 1, 2, 3), (1, 0, 2, 3)
        prices = [[greedy_price(book.ordered(order), ("s",) * many + ("c",)) for order in (one, other)]
                  for many in range(60)]
        self.assertEqual(lead(book, one, other), max(mine - low for mine, low in prices))
        first = min(many for many, (mine, low) in enumerate(prices) if mine > low)
        self.assertEqual(lead_tree(book, one, other), ("s",) * first + ("c",))
        self.assertEqual((lead(book, other, one), len(lead_tree(book, other, one))), (None, 5))
        self.assertEqual((lead(book, one, one), lead_tree(book, one, one)), (0, None))

    def test_trees_of_many_places(self):
        # The second order is better only where six and six and six make more than seven and seven and less.
        book = Book.from_lines("op c 0", "op s 1", "goal r", "rule r 1 s s s s s s r", "rule r 1 s s s s s r",
                               "rule r 1 s s s s r", "rule r 9 s r", "rule r 0 c")
        for one, other in (((0, 1, 2, 3, 4), (1, 0, 2, 3, 4)), ((1, 0, 2, 3, 4), (2, 1, 0, 3, 4)),
                           ((2, 1, 0, 3, 4), (0, 2, 1, 3, 4))):
            prices = [[greedy_price(book.ordered(order), ("s",) * many + ("c",)) for order in (one, other)]
                      for many in range(200)]
            first = [many for many, (mine, low) in enumerate(prices) if mine > low]
            told = lead_tree(book, one, other)
            self.assertEqual(told, ("s",) * first[0] + ("c",) if first else None)
            most = lead(book, one, other)
            self.assertTrue(most is None or most == max(0, *[mine - low for mine, low in prices]))

    def test_trees_in_which_one_is_stuck_do_not_count(self):
        one, other = (0, 1, 2, 3, 4), (1, 0, 2, 3, 4)
        self.assertEqual(verdict(LOADS, one)[0], False)
        self.assertEqual((lead(LOADS, one, other), lead(LOADS, other, one)), (0, 2))
        self.assertEqual(lead_tree(LOADS, other, one), ("s", "c"))
        self.assertEqual((lead(LOADS, other, one, careful=True), lead_tree(LOADS, one, other, careful=True)), (2, None))
        self.assertEqual((lead(RING, (0, 1, 2), (1, 0, 2)), lead_tree(RING, (1, 0, 2), (0, 1, 2))), (0, None))

    def test_great_trees(self):
        # Only with a tree on the left that the second order covers for nothing the first one is dearer.
        book = Book.from_lines("op c 0", "op s 1", "op p 2", "goal r", "rule r 1 p r r", "rule r 0 c", "rule r 3 s s r",
                               "rule r 1 s r")
        tree = lead_tree(book, (0, 1, 2, 3), (0, 1, 3, 2))
        self.assertEqual((tree, lead(book, (0, 1, 2, 3), (0, 1, 3, 2))), (("s", "s", "c"), None))


# Two orders with just six hundred double states, and one more.
SIX_HUNDRED_DOUBLES = Book.from_lines(
    "op c 0", "op s 1", "goal a", "rule a 0 c", "rule b 0 c", "rule d 0 c", "rule a 0 s s s s s s d",
    "rule d 0 s s s a", "rule b 0 s s s b", "rule d 1 s d", "rule a 3 s s d", "rule d 2 s s s s d",
    "rule d 0 s s s s s a",
), (3, 1, 9, 0, 8, 5, 4, 7, 2, 6)
ONE_MORE_DOUBLE = Book.from_lines(
    "op c 0", "op s 1", "goal a", "rule a 0 c", "rule b 0 c", "rule d 0 c", "rule b 2 s s s s a",
    "rule a 3 s s s s s s d", "rule d 0 s s s s s b", "rule a 0 s s s s s b", "rule d 3 s s s s s d", "rule a 3 s d",
    "rule d 2 s s s s s s d", "rule d 0 s s s s s s a", "rule d 1 s a",
), (0, 1, 11, 3, 4, 5, 8, 9, 6, 2, 7, 10)


class LimitTest(RefusedTest):
    def test_just_six_hundred_double_states_and_one_more(self):
        for (book, turned), many in ((SIX_HUNDRED_DOUBLES, 600), (ONE_MORE_DOUBLE, 601)):
            order = tuple(range(len(book)))
            self.assertEqual(len(self.double_states(book, order, turned)), many)
            for one, other in ((order, turned), (turned, order)):
                if many == 600:
                    told = lead_tree(book, one, other)
                    self.assertIs(told is None, lead(book, one, other) == 0)
                else:
                    self.assert_refused(TooMany, 600, lead, book, one, other)
                    self.assert_refused(TooMany, 600, lead_tree, book, one, other)
                    self.assert_refused(InvalidOperation, None, lead, book, one, other, careful=0)
            self.assertEqual((lead(book, order, order), lead_tree(book, order, order)), (0, None))

    def double_states(self, book, one, other):
        """All double states of rows: what both selectors have at each place."""
        found = set()
        kinds, truth = [], Truth(book)
        others = [Truth(book.ordered(order)) for order in (one, other)]
        for many in range(200):
            tree = ("s",) * many + ("c",)
            kinds.insert(0, truth.kind(tree))
            covers = [told.greedy(tree, book.goal, False)[0] for told in others]
            if None not in covers:
                found |= set(zip(kinds, *[told.sides(tree, cover, book.goal)[0] for told, cover in zip(others, covers)]))
        return found

    def test_limits_of_kinds_and_states(self):
        order = tuple(range(len(SIXTY_ONE)))
        for careful in MODES:
            self.assert_refused(TooMany, 60, verdict, SIXTY_ONE, order, careful=careful)
            self.assert_refused(TooMany, 60, lead, SIXTY_ONE, order, order, careful=careful)
            self.assert_refused(TooMany, 60, lead_tree, SIXTY_ONE, order, order, careful=careful)
            self.assert_refused(InvalidOperation, None, verdict, SIXTY_ONE, order, careful=None)
        self.assert_refused(TooMany, 600, verdict, ONE_MORE, tuple(range(len(ONE_MORE))))
        self.assert_refused(TooMany, 600, best_orders, ONE_MORE)
        self.assert_refused(TooMany, 720, best_orders, SIXTY_ONE)
        self.assert_refused(TooMany, 720, best_orders, SIXTY)


class ErrorsTest(RefusedTest):
    def test_no_orders(self):
        for value in (*NO_ORDERS, *others(lambda value: False), (3, 1, 2, 0, 4), (0, 1, 2, 4, 3)):
            with self.subTest(value=value):
                self.assert_refused(InvalidOperation, None, verdict, LOADS, value)
                self.assert_refused(InvalidOperation, None, lead, LOADS, value, (0, 1, 2, 3, 4))
                self.assert_refused(InvalidOperation, None, lead_tree, LOADS, (0, 1, 2, 3, 4), value)
        for order in permutations(range(5)):
            if is_order(LOADS, order):
                self.assertEqual(len(verdict(LOADS, order)), 2)
            else:
                self.assert_refused(InvalidOperation, None, verdict, LOADS, order)

    def test_errors_in_their_order(self):
        books = wrong_values(InvalidBook, None, STEPS.lines)
        orders = wrong_values(InvalidOperation, *NO_ORDERS)
        modes = wrong_values(InvalidOperation, 0, None, "True")
        order = (0, 1, 2, 3)
        call = lambda book, one, careful: verdict(book, one, careful=careful)
        self.assert_order(call, (STEPS, books), (order, orders), (True, modes))
        for function in (lead, lead_tree):
            call = lambda book, one, other, careful: function(book, one, other, careful=careful)
            self.assert_order(call, (STEPS, books), (order, orders[:4]), (order, orders[:4]), (True, modes))
        self.assert_order(lambda book, careful: best_orders(book, careful=careful), (STEPS, books), (True, modes))
        self.assert_order(count_orders, (STEPS, books))

    def test_other_values(self):
        for value in others(lambda value: isinstance(value, Book)):
            for call in (count_orders, best_orders, lambda book: next(each_order(book)), lambda book: verdict(book, ()),
                         lambda book: lead(book, (), ()), lambda book: lead_tree(book, (), ())):
                self.assert_refused(InvalidBook, None, call, value)
        for value in others(lambda value: value is True or value is False):
            order = (0, 1, 2)
            self.assert_refused(InvalidOperation, None, best_orders, RING, careful=value)
            self.assert_refused(InvalidOperation, None, verdict, RING, order, careful=value)
            self.assert_refused(InvalidOperation, None, lead, RING, order, order, careful=value)
            self.assert_refused(InvalidOperation, None, lead_tree, RING, order, order, careful=value)

    def test_equal_calls_return_equal_results(self):
        for book in (STEPS, LOADS, FREE):
            again = Book.from_lines(*book.lines)
            order = tuple(range(len(book)))
            for careful in MODES:
                self.assertEqual(best_orders(book, careful=careful), best_orders(again, careful=careful))
                self.assertEqual(verdict(book, order, careful=careful), verdict(again, order, careful=careful))


if __name__ == "__main__":
    unittest.main()
