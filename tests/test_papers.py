"""Stage 9: papers about the excess (0.2, 0.4, 0.5, 0.15, 0.16, 9.1, 11.2)."""

import unittest
from random import Random

from munchbehind.base.books import Book
from munchbehind.cover.greedy import excess
from munchbehind.decide.pairs import Pairs
from munchbehind.decide.papers import bounds, greatest_excess, is_bounded, is_paper, paper, worst_tree
from munchbehind.decide.pumps import Pump, is_pump
from munchbehind.decide.ratios import is_ratio_paper, ratio, ratio_paper
from munchbehind.errors import InvalidBook, InvalidOperation, TooMany
from tests.deciding import (
    FREE, HOLE, MODES, NO_RULES, NO_TREES, PILED, SAMPLES, SIX, all_pairs, excesses, greatest_sums, keeps, loop_sums,
    piled_high, small_cuts,
)
from tests.oracles import ADDS, LOADS, ONE_MORE, RING, SIX_HUNDRED, SIXTY, SIXTY_ONE, STEPS, Truth, made_trees
from tests.refused import RefusedTest, wrong_values
from tests.values import everything, is_plain_integer, others

FUNCTIONS = (paper, is_bounded, greatest_excess, bounds, worst_tree)
THREE = ("p", "v", "c")
ADD = ("p", "_", "c")


def behind(price, other):
    return price - other


class PaperTest(RefusedTest):
    def test_examples(self):
        told = [
            greatest_excess(STEPS), worst_tree(STEPS) == SIX, is_bounded(ADDS), greatest_excess(ADDS),
            greatest_excess(LOADS), worst_tree(RING), paper(RING, careful=True),
        ]
        self.assertEqual(told, [1, True, False, None, 0, None, ("within", 0, {})])
        told = [
            is_paper(ADDS, ("behind", HOLE, ADD, THREE)), is_paper(ADDS, ("behind", HOLE, ADD, ("v",))),
            paper(STEPS)[:2], is_paper(STEPS, ("within", 5, bounds(STEPS))),
        ]
        self.assertEqual(told, [True, False, ("within", 1), True])

    def test_least_bounds_are_greatest_sums_along_moves(self):
        forms = {"within": 0, "behind": 0}
        for book, careful, pairs in all_pairs():
            sums = greatest_sums(pairs, behind)
            told = paper(book, careful=careful)
            forms[told[0]] += 1
            self.assertIs(is_bounded(book, careful=careful), sums is not None)
            if sums is None:
                self.assertEqual((told[0], len(told)), ("behind", 4))
                self.assertIsNone(greatest_excess(book, careful=careful))
                self.assert_refused(InvalidOperation, None, bounds, book, careful=careful)
                self.assert_refused(InvalidOperation, None, worst_tree, book, careful=careful)
                continue
            most = max([0, *[sums[state] for state in pairs.starts]])
            self.assertEqual(told, ("within", most, sums))
            self.assertEqual(list(told[2]), list(pairs.states))
            self.assertEqual((bounds(book, careful=careful), list(bounds(book, careful=careful))), (sums, list(sums)))
            self.assertEqual(greatest_excess(book, careful=careful), most)
        self.assertGreater(min(forms.values()), 15)

    def test_papers_are_papers(self):
        asked = [(book, careful) for book in (*SAMPLES, SIXTY) for careful in MODES]
        for book, careful in (*asked, (SIX_HUNDRED, False)):
            told = paper(book, careful=careful)
            self.assertIs(is_paper(book, told, careful=careful), True)
            if told[0] == "behind":
                self.assertIs(is_pump(book, *told[1:], careful=careful), True)
                self.assertGreater(Pump(book, *told[1:], careful=careful).rate[0], 0)
                pump = Pump(book, *told[1:], careful=careful)
                self.assertGreaterEqual(pump.excess(10 ** 6) * pump.rate[1], (10 ** 6 - 10 ** 4) * pump.rate[0])

    def test_books_of_which_no_state_is_useful(self):
        for book in (RING, NO_RULES, NO_TREES):
            for careful in MODES:
                told = [function(book, careful=careful) for function in FUNCTIONS]
                self.assertEqual(told, [("within", 0, {}), True, 0, {}, None])
                self.assertIs(is_paper(book, ("within", 0, {}), careful=careful), True)
                self.assertIs(is_paper(book, ("within", 7, {}), careful=careful), True)
                self.assertIs(is_paper(book, ("within", -1, {}), careful=careful), False)

    def test_the_modes_differ(self):
        # The blind selector is stuck in all trees in which the careful one falls behind.
        book = Book.from_lines("op c 0", "op v 0", "op s 1", "goal r", "rule r 1 s a", "rule r 2 s r", "rule r 1 s s r",
                               "rule r 1 v", "rule a 0 c", "rule r 1 a")
        self.assertEqual((greatest_excess(book), greatest_excess(book, careful=True)), (0, None))
        self.assertEqual((paper(book)[0], paper(book, careful=True)[0]), ("within", "behind"))
        told = paper(book, careful=True)
        self.assertEqual((is_paper(book, told), is_paper(book, told, careful=True)), (False, True))

    def test_loops_with_trees_beside_them(self):
        # A long loop gains only by the tree on its left, which has to be one that is behind.
        book = Book.from_lines(
            "op c 0", "op s 1", "op p 2", "goal r", "rule r 0 p a s s s s r", "rule r 0 c", "rule a 3 s s c",
            "rule a 0 s a", "rule a 0 c", "rule a 0 s s a",
        )
        told = paper(book)
        self.assertEqual((told[0], is_paper(book, told)), ("behind", True))
        self.assertEqual(told[2], ("p", "s", "s", "c", "s", "s", "s", "s", "_"))
        self.assertEqual(Pump(book, *told[1:]).rate, (3, 1))

    def test_small_trees_beside_the_loop(self):
        # With the worst trees at all three places the loop would have more than 5000 places.
        rules = [f"rule {high} 0 p p {low} {low} p {low} {low}" for low, high in zip("fedg", "edgb")]
        book = Book.from_lines("op c 0", "op s 1", "op p 2", "goal r", "rule r 0 p b p b p b r", "rule r 0 c",
                               "rule f 1 s s s s s c", "rule f 0 s f", "rule f 0 c", *rules)
        told = paper(book)
        self.assertEqual((told[0], is_paper(book, told), ratio(book)), ("behind", True, None))
        self.assertLess(max(map(len, told[1:])), 3000)
        told = ratio_paper(book)
        self.assertEqual((told[0], is_ratio_paper(book, told)), ("free", True))
        self.assertLess(max(map(len, told[1:])), 3000)

    def test_great_trees(self):
        book = piled_high("s s c")
        tree = worst_tree(book)
        self.assertEqual((greatest_excess(book), len(tree), excess(book, tree)), (1024, 4095, 1024))
        book = piled_high("s s s c")
        self.assertEqual(greatest_excess(book), 1024)
        for careful in MODES:
            self.assert_refused(TooMany, 5000, worst_tree, book, careful=careful)
        self.assertIs(is_paper(book, paper(book)), True)
        book = piled_high("s s c", "rule a 2 s s a", "rule a 0 s a")
        told = paper(book)
        self.assertEqual((told[0], is_paper(book, told)), ("behind", True))
        self.assertLess(max(map(len, told[1:])), 2100)


class WithinTest(RefusedTest):
    def judged(self, book, value, careful=False):
        told = is_paper(book, value, careful=careful)
        self.assertIs(type(told), bool)
        return told

    def test_greater_numbers_and_bounds(self):
        rng = Random(5)
        right = wrong = 0
        for book, careful, pairs in all_pairs():
            if not is_bounded(book, careful=careful) or not pairs.states:
                continue
            _, most, least = paper(book, careful=careful)
            for _ in range(30):
                told = {state: bound + rng.choice((0, 0, 0, 1, 2)) for state, bound in least.items()}
                number = most + rng.choice((-1, 0, 0, 1, 3))
                fits = keeps(pairs, told, behind) and number >= max([0, *[told[state] for state in pairs.starts]])
                self.assertIs(self.judged(book, ("within", number, told), careful), fits)
                right, wrong = right + fits, wrong + (not fits)
        self.assertGreater(min(right, wrong), 100)

    def test_the_order_of_a_dict_does_not_matter(self):
        told = bounds(STEPS)
        back = {state: told[state] for state in reversed(list(told))}
        self.assertIs(self.judged(STEPS, ("within", 1, back)), True)

    def test_bounds_one_less(self):
        for book in (STEPS, LOADS, PILED):
            told = bounds(book)
            for state in told:
                self.assertIs(self.judged(book, ("within", 9, {**told, state: told[state] - 1})), False)
            self.assertIs(self.judged(book, ("within", greatest_excess(book) - 1, told)), False)

    def test_states_left_out_put_in_or_exchanged(self):
        told = bounds(PILED)
        more = (((0,), (0,)), ("a",), ("a",))
        self.assertNotIn(more, Pairs(PILED))
        self.assertIs(self.judged(PILED, ("within", 4, {**told, more: 99})), False)
        for state in told:
            rest = {other: bound for other, bound in told.items() if other != state}
            self.assertIs(self.judged(PILED, ("within", 4, rest)), False)
            self.assertIs(self.judged(PILED, ("within", 4, {**rest, more: told[state]})), False)
            self.assertIs(self.judged(PILED, ("within", 4, {**rest, None: told[state]})), False)
        self.assertIs(self.judged(PILED, ("within", 4, {})), False)
        self.assertIs(self.judged(PILED, ("within", 4, bounds(STEPS))), False)
        self.assertIs(self.judged(PILED, ("within", 4, told)), True)

    def test_true_is_not_one(self):
        book = Book.from_lines("op c 0", "op s 1", "goal r", "rule r 1 s s r", "rule r 0 s c", "rule r 0 c")
        told = bounds(book)
        self.assertIs(self.judged(book, ("within", 0, told)), True)
        self.assertIs(self.judged(book, ("within", False, told)), False)
        self.assertIs(self.judged(STEPS, ("within", True, bounds(STEPS))), False)
        self.assertIs(self.judged(STEPS, ("within", 1, {state: True for state in bounds(STEPS)})), False)
        for state in told:
            (matched, ready), side, other = state
            odd = ((tuple(map(bool, matched)) if matched in ((0,), (1,)) else list(matched), ready), side, other)
            if isinstance(odd[0][0], tuple):
                self.assertEqual(odd, state)
                rest = {odd if key == state else key: bound for key, bound in told.items()}
                self.assertIs(self.judged(book, ("within", 0, rest)), False)

    def test_long_integers(self):
        told = bounds(STEPS)
        great = 10 ** 60 - 1
        self.assertIs(self.judged(STEPS, ("within", great, told)), True)
        self.assertIs(self.judged(STEPS, ("within", great + 1, told)), False)
        starts = Pairs(STEPS).starts
        # One subtree at most is below each place, so all bounds may be raised alike.
        self.assertIs(self.judged(STEPS, ("within", great, {state: great - 9 + told[state] for state in told})), True)
        self.assertIs(self.judged(STEPS, ("within", great, {**told, starts[-1]: great + 1})), False)

    def test_other_numbers_and_dicts(self):
        told = bounds(STEPS)
        for value in everything():
            with self.subTest(value=value):
                fits = is_plain_integer(value) and value >= 1
                self.assertIs(self.judged(STEPS, ("within", value, told)), fits)
                self.assertIs(self.judged(STEPS, ("within", 1, value)), False)
                self.assertIs(self.judged(STEPS, ("within", 1, {**told, Pairs(STEPS).states[0]: value})),
                              is_plain_integer(value) and 0 <= value <= 1 and value == told[Pairs(STEPS).states[0]])
        self.assertIs(self.judged(STEPS, ("within", 1, tuple(told.items()))), False)
        self.assertIs(self.judged(STEPS, ("within", 1, list(told))), False)

    def test_a_book_without_a_bound(self):
        pairs = Pairs(ADDS)
        self.assertIs(self.judged(ADDS, ("within", 10 ** 50, {state: 10 ** 40 for state in pairs})), False)


class BehindTest(RefusedTest):
    def test_small_contexts_and_trees(self):
        right = wrong = 0
        for book in SAMPLES:
            truth = Truth(book)
            for careful in MODES:
                for outer, loop, inner in small_cuts(book, many=400):
                    sums = loop_sums(truth, outer, loop, inner, careful)
                    fits = sums is not None and any(price > other for _, price, other in sums)
                    self.assertIs(is_paper(book, ("behind", outer, loop, inner), careful=careful), fits)
                    right, wrong = right + fits, wrong + (not fits)
                    if fits:
                        self.assertIs(is_bounded(book, careful=careful), False)
        self.assertGreater(min(right, wrong), 60)

    def test_no_pumps(self):
        good = [HOLE, ADD, THREE]
        self.assertIs(is_paper(ADDS, ("behind", *good)), True)
        odd = [("x",), ("_", "_"), ("p", "_"), ["_"], (), None, "_", ("p", "_", "_"), ("c",), ("p",) * 5001]
        for at in range(3):
            for value in (*odd, *everything()):
                told = good[:at] + [value] + good[at + 1:]
                with self.subTest(told=told):
                    fits = at == 0 and value == HOLE
                    if not (at == 2 and value == ("c",)):
                        self.assertIs(is_paper(ADDS, ("behind", *told)), fits)
        # One that falls behind by nothing is none, nor is one that leads to another kind.
        self.assertIs(is_paper(ADDS, ("behind", HOLE, ("p", "c", "_"), THREE)), False)
        self.assertIs(is_paper(ADDS, ("behind", HOLE, HOLE, THREE)), False)
        self.assertIs(is_paper(ADDS, ("behind", HOLE, ADD, ("v",))), False)
        self.assertIs(is_paper(STEPS, ("behind", HOLE, ("s",) * 4 + HOLE, SIX)), False)

    def test_long_contexts(self):
        outer, loop = ("p",) * 2000 + HOLE + ("c",) * 2000, ("p",) * 2400 + HOLE + ("c",) * 2400
        self.assertIs(is_paper(ADDS, ("behind", outer, loop, THREE)), True)
        loop = ("p",) * 2500 + HOLE + ("c",) * 2500
        self.assertIs(is_paper(ADDS, ("behind", HOLE, loop, THREE)), False)

    def test_every_value_is_judged(self):
        goods = (("behind", HOLE, ADD, THREE), paper(STEPS))
        odd = []
        for good in goods:
            odd += [good[:-1], good + ((),), list(good), good[1:], ("Behind", *good[1:]), (good,), (good[0],), {0: good}]
            odd += [(word, *good[1:]) for word in ("never", "stuck", "", None, 0, True, ("behind",), ["within"])]
        odd += [("within", *goods[0][1:]), ("behind", *goods[1][1:]), ("within", 0), ("behind",), ("within",)]
        for value in (*odd, *everything()):
            with self.subTest(value=value):
                for book in (ADDS, STEPS, LOADS):
                    for careful in MODES:
                        self.assertIs(is_paper(book, value, careful=careful), False)
        for book in (RING, NO_RULES):
            for value in (*odd, *everything()):
                self.assertIs(is_paper(book, value), False)


class WorstTest(RefusedTest):
    def test_all_small_trees(self):
        reached = 0
        for book, careful, _ in all_pairs():
            trees = made_trees(book, 6)[:250]
            told = excesses(book, trees, careful)
            most = greatest_excess(book, careful=careful)
            if most is None:
                continue
            self.assertTrue(all(number <= most for _, number in told))
            tree = worst_tree(book, careful=careful)
            if tree is None:
                self.assertEqual((told, most), ([], 0))
                continue
            self.assertEqual(excess(book, tree, careful=careful), most)
            first = [len(one) for one, number in told if number == most]
            if first:
                reached += 1
                self.assertEqual(len(tree), min(first))
            elif trees:
                self.assertGreaterEqual(len(tree), len(trees[-1]))
        self.assertGreater(reached, 15)

    def test_least_bounds_are_greatest_differences(self):
        # They are told of subtrees with all covers from the other side.
        for book in (STEPS, LOADS, PILED, *[one for one in SAMPLES[8:] if is_bounded(one)][:8]):
            truth, told = Truth(book), bounds(book)
            for tree in made_trees(book, 7)[:120]:
                kind = truth.kind(tree)
                for state, bound in told.items():
                    if state[0] == kind and len(state[1]) == 1 and len(state[2]) == 1:
                        if state[1][0] in truth.arities or state[2][0] in truth.arities:
                            continue
                        cover, _ = truth.greedy(tree, state[1][0], False)
                        if cover is not None:
                            least = min(truth.price(other) for other in truth.covers(tree, state[2][0]))
                            self.assertLessEqual(truth.price(cover) - least, bound)

    def test_examples_of_few_places(self):
        self.assertEqual((len(worst_tree(LOADS)), len(worst_tree(LOADS, careful=True))), (1, 1))
        self.assertEqual((greatest_excess(PILED), len(worst_tree(PILED))), (4, 11))
        self.assertEqual(worst_tree(PILED), ("p",) + ("p", "s", "c", "s", "c") * 2)

    def test_ties_are_broken_by_places(self):
        # Both ways lead to an excess of 2, the later one with fewer places.
        book = Book.from_lines("op c 0", "op s 1", "op t 1", "goal r", "rule r 2 s s s c", "rule r 2 t c",
                               "rule r 0 s r", "rule r 0 t r", "rule r 0 c")
        self.assertEqual((greatest_excess(book), worst_tree(book)), (2, ("t", "c")))


class ErrorsTest(RefusedTest):
    def test_errors_in_their_order(self):
        books = wrong_values(InvalidBook, None, STEPS.lines, "STEPS", 0)
        modes = wrong_values(InvalidOperation, 0, 1, None, "True", [], ())
        for function in FUNCTIONS:
            self.assert_order(lambda book, careful: function(book, careful=careful), (LOADS, books), (True, modes))
        for value in (None, ("within", 0, {}), ("behind", HOLE, ADD, THREE)):
            call = lambda book, careful: is_paper(book, value, careful=careful)
            self.assert_order(call, (ADDS, books), (True, modes))

    def test_too_many_come_last(self):
        for book, limit, careful in ((SIXTY_ONE, 60, False), (SIXTY_ONE, 60, True), (ONE_MORE, 600, False)):
            for function in FUNCTIONS:
                for _ in range(2):
                    self.assert_refused(TooMany, limit, function, book, careful=careful)
                self.assert_refused(InvalidOperation, None, function, book, careful=0)
            for value in (None, ("within", 0, {}), ("behind", HOLE, HOLE, ("c",))):
                self.assert_refused(TooMany, limit, is_paper, book, value, careful=careful)
                self.assert_refused(InvalidOperation, None, is_paper, book, value, careful=1)

    def test_other_values(self):
        for value in others(lambda value: isinstance(value, Book)):
            for function in FUNCTIONS:
                self.assert_refused(InvalidBook, None, function, value)
                self.assert_refused(InvalidBook, None, function, value, careful=None)
            self.assert_refused(InvalidBook, None, is_paper, value, None)
        for value in others(lambda value: value is True or value is False):
            for function in FUNCTIONS:
                self.assert_refused(InvalidOperation, None, function, ADDS, careful=value)
            self.assert_refused(InvalidOperation, None, is_paper, ADDS, None, careful=value)


class SharedTest(RefusedTest):
    def test_nothing_that_is_returned_is_shared(self):
        for book in (STEPS, PILED):
            before = paper(book)
            for told in (bounds(book), paper(book)[2]):
                told.clear()
                told[None] = 5
            self.assertEqual((paper(book), bounds(book)), (before, before[2]))
            mine = bounds(book)
            self.assertIs(is_paper(book, ("within", 9, mine)), True)
            self.assertEqual(mine, bounds(book))

    def test_equal_calls_return_equal_results(self):
        for book in SAMPLES[:16]:
            again = Book.from_lines(*book.lines)
            for careful in MODES:
                for function in (paper, is_bounded, greatest_excess):
                    told = [function(one, careful=careful) for one in (book, again, book)]
                    self.assertEqual((told[0], told[1]), (told[2], told[0]))
                if is_bounded(book, careful=careful):
                    told = [worst_tree(one, careful=careful) for one in (book, again, book)]
                    self.assertEqual((told[0], told[1]), (told[2], told[0]))

    def test_results_are_tuples(self):
        for told in (paper(ADDS), paper(STEPS)):
            self.assertIs(type(told), tuple)
        self.assertTrue(all(type(value) is tuple for value in paper(ADDS)[1:]))
        self.assertTrue(all(type(value) is int for value in bounds(STEPS).values()))
        self.assertEqual([type(FREE), type(worst_tree(STEPS))], [Book, tuple])


if __name__ == "__main__":
    unittest.main()
