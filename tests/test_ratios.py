"""Stage 12: the ratio in the long run, and ratio papers (0.2, 0.4, 0.5, 0.17, 12.1, 12.2)."""

import unittest
from fractions import Fraction
from random import Random

from munchbehind.base.books import Book
from munchbehind.cover.covers import cheapest_price
from munchbehind.cover.greedy import greedy_price
from munchbehind.decide.pairs import Pairs
from munchbehind.decide.papers import bounds, is_bounded, paper
from munchbehind.decide.pumps import Pump
from munchbehind.decide.ratios import is_ratio_paper, ratio, ratio_paper
from munchbehind.errors import InvalidBook, InvalidOperation, TooMany
from tests.deciding import (
    FREE, HOLE, MODES, NO_RULES, NO_TREES, SAMPLES, SIX, all_pairs, greatest_sums, keeps, loop_sums, lowest,
    piled_high, small_cuts,
)
from tests.oracles import ADDS, LOADS, ONE_MORE, RING, SIX_HUNDRED, SIXTY, SIXTY_ONE, STEPS, Truth, made_trees
from tests.refused import RefusedTest, wrong_values
from tests.values import everything, is_plain_integer, others

FUNCTIONS = (ratio, ratio_paper)
THREE = ("p", "v", "c")
ADD = ("p", "_", "c")
TWO = ("s", "s", "_")
# The dear loop is three places long, the cheap one two.
UNEVEN = Book.from_lines("op c 0", "op s 1", "goal r", "rule r 5 s s s r", "rule r 2 s s r", "rule r 2 s r", "rule r 0 c")


def weigh_by(above, below):
    return lambda price, other: below * price - above * other


def tight(pairs, above, below):
    """Whether no loop falls further behind than a fraction tells."""
    return greatest_sums(pairs, weigh_by(above, below)) is not None


def fractions_near(fraction):
    """A fraction a little less, and one a little greater."""
    small = Fraction(1, 10 ** 4)
    return [(told.numerator, told.denominator) for told in (fraction - small, fraction + small)]


class RatioTest(RefusedTest):
    def test_examples(self):
        told = [ratio(STEPS), ratio(ADDS), ratio(LOADS), ratio(LOADS, careful=True), ratio(FREE), ratio(RING)]
        self.assertEqual(told, [(1, 1), (3, 1), (0, 1), (1, 1), None, (0, 1)])
        told = [is_ratio_paper(FREE, ("free", HOLE, TWO, ("s", "s", "c"))), ratio_paper(LOADS)[0]]
        self.assertEqual((told, ratio_paper(ADDS)[:3]), ([True, "still"], ("ratio", 3, 1)))

    def test_the_least_fraction_that_bounds_all_moves(self):
        great = set()
        for book, careful, pairs in all_pairs():
            told = ratio(book, careful=careful)
            if told is None:
                # However great a fraction is, some loop falls further behind.
                self.assertIs(tight(pairs, 10 ** 9, 1), False)
                continue
            above, below = told
            self.assertEqual((lowest(above, below), type(told)), (told, tuple))
            self.assertIs(tight(pairs, above, below), True)
            self.assertTrue(above == 0 or above >= below)
            if above > below:
                great.add(told)
                (less, under), (more, low) = fractions_near(Fraction(above, below))
                self.assertIs(tight(pairs, less, under), False)
                self.assertIs(tight(pairs, more, low), True)
            else:
                # The ratio is 0 just if the prices of the greedy selector are bounded.
                self.assertIs(tight(pairs, 0, 1), above == 0)
        self.assertGreater(len(great), 5)

    def test_being_bounded(self):
        for book in SAMPLES:
            for careful in MODES:
                told = ratio(book, careful=careful)
                if is_bounded(book, careful=careful):
                    self.assertIn(told, ((0, 1), (1, 1)))
                else:
                    self.assertTrue(told is None or told[0] > told[1])

    def test_quotients_of_great_pumps(self):
        for book in SAMPLES:
            for careful in MODES:
                told = ratio_paper(book, careful=careful)
                if told[0] == "still":
                    continue
                pump = Pump(book, *told[-3:], careful=careful)
                times = 10 ** 12
                price, least = pump.greedy_price(times), pump.cheapest_price(times)
                if told[0] == "free":
                    self.assertGreaterEqual(price - pump.greedy_price(0), times)
                    self.assertLess(least, 10 ** 6)
                else:
                    self.assertGreater(price, 10 ** 11)
                    self.assertLess(abs(price * told[2] - least * told[1]), 10 ** 8)

    def test_pumps_of_small_trees_are_no_greater(self):
        for book in SAMPLES:
            told = ratio(book)
            truth = Truth(book)
            for cut in small_cuts(book, many=40):
                sums = loop_sums(truth, *cut, False)
                for _, price, other in sums or ():
                    if told is not None:
                        self.assertLessEqual(price * told[1], other * told[0])

    def test_great_trees(self):
        for book, right in ((STEPS, (1, 1)), (FREE, None), (UNEVEN, (5, 3)), (SIX_HUNDRED, (4, 3))):
            self.assertEqual(ratio(book), right)
            for many in (4999, 4990):
                tree = ("s",) * (many - many % 6) + ("c",)
                price, least = greedy_price(book, tree), cheapest_price(book, tree)
                if price is not None and right is not None:
                    self.assertLess(abs(price * right[1] - least * right[0]), 60)
        tree = ("p",) * 2499 + ("c",) * 2500
        self.assertEqual((greedy_price(ADDS, tree), cheapest_price(ADDS, tree)), (3 * 2499, 2499))

    def test_fractions_that_are_reached_by_trees_beside_the_loop(self):
        # The loop itself costs 1 and 1, and the tree beside it 1024 and 0.
        book = piled_high("s s c", "rule a 1 p s a a")
        self.assertEqual((ratio(book), is_bounded(book)), ((1025, 1), False))
        told = ratio_paper(book)
        self.assertEqual((told[:3], is_ratio_paper(book, told)), (("ratio", 1025, 1), True))
        self.assertTrue(all(len(part) <= 5000 for part in told[4:]))

    def test_contexts_of_few_places(self):
        # The loop needs three great trees beside it, which together have hardly less than 5000 places.
        rules = ["rule e 0 p p f f p f f", "rule d 0 p p e e p e e", "rule g 0 p p d d p d d", "rule b 0 p p g g p g d"]
        book = Book.from_lines("op c 0", "op s 1", "op p 2", "goal r", "rule r 1 p b p b p b r", "rule r 0 c",
                               "rule f 1 s s s s s s c", "rule f 0 s f", "rule f 0 c", *rules)
        told = ratio_paper(book)
        self.assertEqual((told[:3], len(told[5])), (("ratio", 625, 1), 4993))
        self.assertIs(is_ratio_paper(book, told), True)

    def test_prices_times_a_number(self):
        for book in SAMPLES:
            most = max([rule[1] for rule in book.rules], default=9)
            for careful in MODES:
                for number in range(1, 9 // most + 1 if most else 4):
                    told = ratio(book.scaled(number), careful=careful)
                    self.assertEqual(told, ratio(book, careful=careful))

    def test_all_rules_for_nothing(self):
        for book in (STEPS, ADDS, FREE):
            self.assertEqual((ratio(book.scaled(0)), ratio_paper(book.scaled(0))[0]), ((0, 1), "still"))


class RatioPaperTest(RefusedTest):
    def judged(self, book, value, careful=False):
        told = is_ratio_paper(book, value, careful=careful)
        self.assertIs(type(told), bool)
        return told

    def test_papers_that_are_told(self):
        forms = {"ratio": 0, "still": 0, "free": 0}
        asked = [(book, careful) for book in (*SAMPLES, SIXTY, UNEVEN) for careful in MODES]
        for book, careful in (*asked, (SIX_HUNDRED, False)):
            told = ratio_paper(book, careful=careful)
            forms[told[0]] += 1
            self.assertIs(self.judged(book, told, careful), True)
            right = ratio(book, careful=careful)
            if told[0] == "ratio":
                self.assertEqual((right, len(told)), (told[1:3], 7))
            else:
                self.assertEqual((right, len(told)), ((0, 1), 2) if told[0] == "still" else (None, 4))
            if told[0] != "free":
                limits = told[1] if told[0] == "still" else told[3]
                self.assertEqual(list(limits), list(Pairs(book, careful=careful).states))
                weigh = weigh_by(*right)
                self.assertIs(keeps(Pairs(book, careful=careful), limits, weigh), True)
        self.assertGreater(min(forms.values()), 8)

    def test_books_of_which_no_state_is_useful(self):
        for book in (RING, NO_RULES, NO_TREES):
            for careful in MODES:
                self.assertEqual(ratio_paper(book, careful=careful), ("still", {}))
                self.assertIs(self.judged(book, ("still", {}), careful), True)
                self.assertIs(self.judged(book, ("ratio", 1, 1, {}, HOLE, HOLE, ("c",)), careful), False)

    def test_other_fractions(self):
        _, above, below, told, *parts = ratio_paper(UNEVEN)
        self.assertEqual((above, below), (5, 3))
        for more in range(-1, 40):
            for low in range(-1, 25):
                fits = (more, low) == (5, 3)
                self.assertIs(self.judged(UNEVEN, ("ratio", more, low, told, *parts)), fits)
        # All bounds for twice the weights are there, but the integers are not coprime.
        double = {state: 2 * bound for state, bound in told.items()}
        self.assertIs(self.judged(UNEVEN, ("ratio", 10, 6, double, *parts)), False)
        self.assertIs(self.judged(UNEVEN, ("ratio", 5, 3, double, *parts)),
                      keeps(Pairs(UNEVEN), double, weigh_by(5, 3)))
        # A greater fraction has bounds as well, but no loop that shows it.
        sums = greatest_sums(Pairs(UNEVEN), weigh_by(2, 1))
        self.assertIs(self.judged(UNEVEN, ("ratio", 2, 1, sums, *parts)), False)

    def test_true_is_not_one(self):
        _, above, below, told, *parts = ratio_paper(STEPS)
        self.assertEqual((above, below), (1, 1))
        for more, low in ((True, 1), (1, True), (True, True), (10 ** 60, 1), (1, 10 ** 60), (None, 1), ("1", 1)):
            self.assertIs(self.judged(STEPS, ("ratio", more, low, told, *parts)), False)
        self.assertIs(self.judged(STEPS, ("ratio", 1, 1, told, *parts)), True)
        for state in told:
            self.assertIs(self.judged(STEPS, ("ratio", 1, 1, {**told, state: True}, *parts)), False)
        rest = ratio_paper(LOADS)[1]
        for state, bound in rest.items():
            odd = {**rest, state: True}
            self.assertIs(self.judged(LOADS, ("still", odd)), False)
            self.assertEqual(type(bound), int)

    def test_bounds_that_are_less_or_greater(self):
        rng = Random(4)
        right = wrong = 0
        for book, careful, pairs in all_pairs():
            told = ratio_paper(book, careful=careful)
            if told[0] == "free" or not pairs.states:
                continue
            at = 1 if told[0] == "still" else 3
            weigh = weigh_by(*ratio(book, careful=careful))
            for _ in range(20):
                limits = {state: bound + rng.choice((0, 0, 0, 1, 3)) for state, bound in told[at].items()}
                fits = keeps(pairs, limits, weigh)
                self.assertIs(self.judged(book, (*told[:at], limits, *told[at + 1:]), careful), fits)
                right, wrong = right + fits, wrong + (not fits)
            for state in pairs.states:
                limits = {**told[at], state: told[at][state] - 1}
                self.assertIs(self.judged(book, (*told[:at], limits, *told[at + 1:]), careful),
                              keeps(pairs, limits, weigh))
        self.assertGreater(min(right, wrong), 100)

    def test_bounds_that_are_greater_alike(self):
        # One subtree at most is below each place, so all bounds may be raised alike.
        for book in (STEPS, UNEVEN):
            told = ratio_paper(book)
            for more in (1, 7, 10 ** 58):
                limits = {state: bound + more for state, bound in told[3].items()}
                self.assertIs(self.judged(book, (*told[:3], limits, *told[4:])), True)
                limits = {state: bound - more for state, bound in told[3].items()}
                self.assertIs(self.judged(book, (*told[:3], limits, *told[4:])), False)
        # Two subtrees raise a bound twice as much.
        told = ratio_paper(ADDS)
        limits = {state: bound + 1 for state, bound in told[3].items()}
        self.assertIs(self.judged(ADDS, (*told[:3], limits, *told[4:])), keeps(Pairs(ADDS), limits, weigh_by(3, 1)))

    def test_states_left_out_or_put_in(self):
        for book in (STEPS, LOADS):
            told = ratio_paper(book)
            at = 1 if told[0] == "still" else 3
            for state in told[at]:
                rest = {other: bound for other, bound in told[at].items() if other != state}
                for limits in (rest, {**rest, None: 9}, {**told[at], None: 9}, {**told[at], (state,): 9}):
                    self.assertIs(self.judged(book, (*told[:at], limits, *told[at + 1:])), False)
            for limits in ({}, list(told[at]), tuple(told[at].items()), None):
                self.assertIs(self.judged(book, (*told[:at], limits, *told[at + 1:])), False)

    def test_pumps_of_small_trees(self):
        seen = {"ratio": set(), "free": set()}
        for book in SAMPLES:
            truth = Truth(book)
            for careful in MODES:
                told = ratio_paper(book, careful=careful)
                if told[0] == "still":
                    continue
                for cut in small_cuts(book, many=80):
                    sums = loop_sums(truth, *cut, careful) or ()
                    if told[0] == "free":
                        fits = any(price >= 1 and other == 0 for _, price, other in sums)
                    else:
                        fits = any(price >= 1 and told[2] * price >= told[1] * other for _, price, other in sums)
                    self.assertIs(self.judged(book, (*told[:-3], *cut), careful), fits)
                    seen[told[0]].add(fits)
        self.assertEqual(seen, {"ratio": {True, False}, "free": {True, False}})

    def test_no_pumps(self):
        _, above, below, told, *parts = ratio_paper(ADDS)
        odd = [("x",), ("_", "_"), ["_"], (), None, "_", ("p", "_", "_"), ("p",) * 5001]
        for at in range(3):
            for value in (*odd, *everything()):
                others_parts = parts[:at] + [value] + parts[at + 1:]
                if value != parts[at] and not (at == 0 and value == HOLE) and not (at == 2 and value == ("c",)):
                    with self.subTest(at=at, value=value):
                        self.assertIs(self.judged(ADDS, ("ratio", above, below, told, *others_parts)), False)
        for loop in (HOLE, ("p", "c", "_")):
            self.assertIs(self.judged(ADDS, ("ratio", 3, 1, told, HOLE, loop, THREE)), False)
        self.assertIs(self.judged(ADDS, ("ratio", 3, 1, told, HOLE, ADD, THREE)), True)
        self.assertIs(self.judged(FREE, ("free", HOLE, ("s", "s", "s", "s", "_"), ("s", "s", "c"))), True)
        self.assertIs(self.judged(FREE, ("free", HOLE, HOLE, ("s", "s", "c"))), False)
        self.assertIs(self.judged(FREE, ("free", HOLE, TWO, ("c",))), False)

    def test_loops_for_nothing_show_nothing(self):
        book = Book.from_lines("op c 0", "op s 1", "op t 1", "goal r", "rule r 0 t r", "rule r 1 s r", "rule r 0 c")
        _, above, below, told, *_ = ratio_paper(book)
        self.assertEqual((above, below), (1, 1))
        self.assertIs(self.judged(book, ("ratio", 1, 1, told, HOLE, ("t", "_"), ("t", "c"))), False)
        self.assertIs(self.judged(book, ("ratio", 1, 1, told, HOLE, ("s", "t", "_"), ("s", "c"))), True)

    def test_papers_of_another_form(self):
        goods = {"ratio": ratio_paper(ADDS), "still": ratio_paper(LOADS), "free": ratio_paper(FREE)}
        books = {"ratio": ADDS, "still": LOADS, "free": FREE}
        for form, book in books.items():
            for other, value in goods.items():
                self.assertIs(self.judged(book, value), form == other)
            self.assertIs(self.judged(book, paper(book)), False)
        self.assertIs(self.judged(ADDS, ("still", {state: 10 ** 50 for state in Pairs(ADDS)})), False)
        self.assertIs(self.judged(ADDS, ("free", HOLE, ADD, THREE)), False)
        self.assertIs(self.judged(STEPS, ("still", bounds(STEPS))), False)
        self.assertIs(self.judged(LOADS, ratio_paper(LOADS, careful=True)), False)
        self.assertIs(self.judged(LOADS, ratio_paper(LOADS), True), False)

    def test_every_value_is_judged(self):
        for book in (ADDS, LOADS, FREE):
            good = ratio_paper(book)
            odd = [good[:-1], good + ((),), list(good), good[1:], (good,), {0: good}, good[0], (good[0],)]
            odd += [(word, *good[1:]) for word in ("Ratio", "", None, 0, True, ("ratio",), ["free"], "behind", "within")]
            for value in (*odd, *everything()):
                with self.subTest(value=value):
                    self.assertIs(self.judged(book, value), False)
        told = ratio_paper(STEPS)
        for at in range(1, 7):
            for value in everything():
                fits = value == told[at] and (is_plain_integer(value) if at < 3 else True)
                if at > 3 and isinstance(value, tuple):
                    continue
                self.assertIs(self.judged(STEPS, (*told[:at], value, *told[at + 1:])), fits)


class ErrorsTest(RefusedTest):
    def test_errors_in_their_order(self):
        books = wrong_values(InvalidBook, None, STEPS.lines, 5)
        modes = wrong_values(InvalidOperation, 0, 1, None, "True", [], ())
        for function in FUNCTIONS:
            self.assert_order(lambda book, careful: function(book, careful=careful), (LOADS, books), (True, modes))
        for value in (None, ("still", {}), ("free", HOLE, HOLE, ("c",))):
            call = lambda book, careful: is_ratio_paper(book, value, careful=careful)
            self.assert_order(call, (LOADS, books), (True, modes))

    def test_too_many_come_last(self):
        for book, limit, careful in ((SIXTY_ONE, 60, False), (SIXTY_ONE, 60, True), (ONE_MORE, 600, False)):
            for function in FUNCTIONS:
                self.assert_refused(TooMany, limit, function, book, careful=careful)
                self.assert_refused(InvalidOperation, None, function, book, careful=0)
            for value in (None, ("still", {}), ("free", HOLE, HOLE, ("c",))):
                self.assert_refused(TooMany, limit, is_ratio_paper, book, value, careful=careful)

    def test_other_values(self):
        for value in others(lambda value: isinstance(value, Book)):
            for function in FUNCTIONS:
                self.assert_refused(InvalidBook, None, function, value)
            self.assert_refused(InvalidBook, None, is_ratio_paper, value, None)
        for value in others(lambda value: value is True or value is False):
            for function in FUNCTIONS:
                self.assert_refused(InvalidOperation, None, function, ADDS, careful=value)
            self.assert_refused(InvalidOperation, None, is_ratio_paper, ADDS, None, careful=value)

    def test_nothing_is_shared(self):
        for book, at in ((STEPS, 3), (LOADS, 1)):
            before = ratio_paper(book)
            ratio_paper(book)[at].clear()
            self.assertEqual(ratio_paper(book), before)
            self.assertIs(is_ratio_paper(book, before), True)
        self.assertEqual(type(ratio_paper(FREE)), tuple)
        self.assertTrue(all(type(value) is tuple for value in ratio_paper(ADDS)[4:]))

    def test_equal_calls_return_equal_results(self):
        for book in SAMPLES[:16]:
            again = Book.from_lines(*book.lines)
            for careful in MODES:
                for function in FUNCTIONS:
                    told = [function(one, careful=careful) for one in (book, again, book)]
                    self.assertEqual((told[0], told[1]), (told[2], told[0]))
        self.assertEqual((len(SIX), len(made_trees(STEPS, 3))), (7, 3))


if __name__ == "__main__":
    unittest.main()
