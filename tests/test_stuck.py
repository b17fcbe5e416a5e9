"""Stage 8: met states, being stuck, and papers about it (0.2, 0.4, 0.5, 0.18, 8.1, 8.2)."""

import unittest
from itertools import permutations

from munchbehind.base.books import Book
from munchbehind.cover.covers import cheapest_price
from munchbehind.cover.greedy import pick, stuck_at
from munchbehind.decide.stuck import is_never_stuck, is_stuck_paper, met_states, stuck_paper, stuck_tree
from munchbehind.errors import InvalidBook, InvalidOperation, TooMany
from munchbehind.match.kinds import Kinds
from tests.oracles import ADDS, EXAMPLES, LOADS, RING, SIXTY_ONE, STEPS, Truth, made_trees, random_book
from tests.refused import RefusedTest, wrong_values
from tests.values import everything, others

DEEP = Book.from_lines(
    "op c 0", "op v 0", "op p 2", "op s 1", "goal r", "rule r 1 p s a r", "rule r 1 p b r", "rule r 0 c",
    "rule b 0 s v", "rule b 1 s c", "rule a 1 c",
)
LATER = Book.from_lines("op c 0", "op v 0", "op s 1", "goal r", "rule r 1 s s s a", "rule r 1 s r", "rule r 0 c",
                        "rule r 0 v", "rule a 0 c")
SAMPLES = (*EXAMPLES, DEEP, LATER, *[random_book(seed, 8, 5, 3) for seed in range(30)])
FUNCTIONS = (met_states, is_never_stuck, stuck_tree, stuck_paper)
MODES = (False, True)
LEAF, SUM = ((0,), (0,)), ((1, 2), (1, 2))


def met_in(truth, trees, careful):
    """The pairs of kinds and sides that the greedy selector comes to in those of some trees that have a cover."""
    found = set()
    for tree in trees:
        if truth.is_covered(tree, truth.book.goal):
            for at, side, _ in truth.walk(tree, truth.book.goal, careful):
                found.add((truth.kind(truth.subtree(tree, at)), side))
    return found


class MetTest(RefusedTest):
    def test_examples(self):
        self.assertEqual(len(met_states(ADDS)), 5)
        self.assertEqual(met_states(RING), ((LEAF, ("n",)),))
        self.assertEqual(met_states(RING, careful=True), ((LEAF, ("n",)),))
        for book, most in ((STEPS, 14), (ADDS, 7), (LOADS, 10), (RING, 1), (DEEP, 6), (LATER, 10)):
            for careful in MODES:
                truth = Truth(book)
                right = tuple(sorted(met_in(truth, made_trees(book, most), careful)))
                self.assertEqual(met_states(book, careful=careful), right)

    def test_small_trees(self):
        for book in SAMPLES:
            for careful in MODES:
                truth = Truth(book)
                told = met_states(book, careful=careful)
                self.assertEqual(told, tuple(sorted(set(told))))
                self.assertEqual(met_in(truth, made_trees(book, 6)[:300], careful) - set(told), set())

    def test_each_one_comes_of_another_one(self):
        for book in SAMPLES:
            for careful in MODES:
                self.assertEqual(self.closed(book, careful), set(met_states(book, careful=careful)))

    def closed(self, book, careful):
        """All met states by trees of their kinds, one step after the other."""
        truth, kinds = Truth(book), Kinds(book)
        below = {kind: set() for kind in kinds}
        for name, arity in truth.arities.items():
            for one in kinds.kinds if arity else ():
                for other in kinds.kinds if arity == 2 else (None,):
                    lower = (one, other)[:arity]
                    below[kinds.after(name, *lower)].add((name, lower))
        waiting = [(kind, (book.goal,)) for kind in kinds if book.goal in kinds.covered(kind)]
        found = set()
        while waiting:
            kind, side = waiting.pop()
            if (kind, side) in found:
                continue
            found.add((kind, side))
            part = side
            if side[0] not in truth.arities:
                used = pick(book, kind, side[0], careful=careful)
                if used is None:
                    continue
                part = book.rules[used[-1]][2]
            for _, lower in below[kind]:
                at = 1
                for low in lower:
                    behind = at + len(self.first(part[at:], truth.arities))
                    waiting.append((low, part[at:behind]))
                    at = behind
        return found

    def first(self, words, arities):
        awaited, many = 1, 0
        while awaited:
            awaited += arities.get(words[many], 0) - 1
            many += 1
        return words[:many]

    def test_books_without_covers(self):
        for book in (Book.from_lines("op c 0", "goal r"), Book.from_lines("op s 1", "goal r", "rule r 0 s r")):
            for careful in MODES:
                told = [function(book, careful=careful) for function in FUNCTIONS]
                self.assertEqual(told, [(), True, None, ("never", ())])
                self.assertIs(is_stuck_paper(book, ("never", ()), careful=careful), True)


class StuckTest(RefusedTest):
    def test_examples(self):
        self.assertEqual([stuck_tree(LOADS), stuck_tree(LOADS, careful=True)], [("s", "v"), None])
        self.assertEqual([stuck_tree(RING, careful=True), stuck_tree(RING)], [("c",), ("c",)])
        self.assertEqual([is_never_stuck(STEPS), is_never_stuck(LOADS), is_never_stuck(RING)], [True, False, False])
        self.assertIs(is_never_stuck(LOADS, careful=True), True)

    def test_deep_below(self):
        # Both selectors are in a part when the tree turns out to be another one than the rule needs.
        self.assertEqual(len(stuck_tree(DEEP)), 4)
        self.assertEqual((stuck_at(DEEP, ("p", "s", "v", "c")), stuck_tree(DEEP, careful=True)), (2, None))
        self.assertEqual((stuck_tree(LATER), stuck_at(LATER, ("s", "s", "s", "v"))), (("s", "s", "s", "v"), 3))
        self.assertIs(stuck_tree(LATER, careful=True), None)

    def test_as_few_places_as_possible(self):
        for book in SAMPLES:
            for careful in MODES:
                truth = Truth(book)
                trees = made_trees(book, 6)[:400]
                stuck = [
                    tree for tree in trees
                    if truth.is_covered(tree, book.goal) and truth.greedy(tree, book.goal, careful)[1] is not None
                ]
                told = stuck_tree(book, careful=careful)
                self.assertIs(is_never_stuck(book, careful=careful), told is None)
                if told is not None:
                    self.assertIsNotNone(stuck_at(book, told, careful=careful))
                    self.assertIsNotNone(cheapest_price(book, told))
                    self.assertEqual(len(told), len(stuck[0]) if stuck else len(told))
                    self.assertTrue(stuck or len(told) >= len(trees[-1]))
                else:
                    self.assertEqual(stuck, [])

    def test_papers_that_are_told(self):
        for book in SAMPLES:
            for careful in MODES:
                told = stuck_paper(book, careful=careful)
                self.assertIs(is_stuck_paper(book, told, careful=careful), True)
                if is_never_stuck(book, careful=careful):
                    self.assertEqual(told, ("never", met_states(book, careful=careful)))
                else:
                    self.assertEqual((told[0], len(told[1])), ("stuck", len(stuck_tree(book, careful=careful))))
        self.assertEqual(stuck_paper(ADDS), ("never", met_states(ADDS)))
        self.assertEqual(stuck_paper(LOADS), ("stuck", ("s", "v")))

    def test_orders_of_different_nonterminals(self):
        for book in SAMPLES[6:20]:
            order = tuple(sorted(range(len(book)), key=lambda index: (book.rules[index][0], index)))
            for careful in MODES:
                other = book.ordered(order)
                self.assertEqual(is_never_stuck(other, careful=careful), is_never_stuck(book, careful=careful))

    def test_a_careful_selector_may_be_stuck(self):
        self.assertEqual((stuck_tree(RING, careful=True), cheapest_price(RING, ("c",))), (("c",), 1))


class NeverPaperTest(RefusedTest):
    def assert_paper(self, right, book, states, careful=False):
        self.assertIs(is_stuck_paper(book, ("never", states), careful=careful), right)

    def test_states_left_out(self):
        for book in (STEPS, ADDS, LATER):
            careful = book is LATER
            states = met_states(book, careful=careful)
            self.assert_paper(True, book, states, careful)
            for at in range(len(states)):
                self.assert_paper(False, book, states[:at] + states[at + 1:], careful)
            self.assert_paper(False, book, (), careful)

    def test_states_doubled_or_in_another_order(self):
        states = met_states(ADDS)
        for order in permutations(states):
            self.assert_paper(order == states, ADDS, order)
        for at in range(len(states)):
            self.assert_paper(False, ADDS, states[:at] + states[at:at + 1] + states[at:])
        self.assert_paper(False, ADDS, list(states))
        self.assert_paper(False, ADDS, {state: True for state in states})

    def test_states_put_in(self):
        book = Book.from_lines(
            "op c 0", "op v 0", "op s 1", "goal r", "rule r 1 s r", "rule r 0 c", "rule a 1 v", "rule a 2 s s a",
        )
        states, kinds = met_states(book), Kinds(book)
        sides = [*book.parts, *[(word,) for word in book.nonterminals]]
        right = 0
        for kind in kinds:
            for side in sides:
                if (kind, side) in states:
                    continue
                # Inside of a pattern nothing is chosen, so the selector is not stuck there.
                good = side in book.parts or pick(book, kind, side[0]) is not None
                self.assert_paper(good, book, tuple(sorted((*states, (kind, side)))))
                right += good
        self.assertGreater(right, 3)

    def test_what_is_no_state(self):
        states = met_states(ADDS)
        odd = [
            (((), ()), ("r",)), (((1,), (1,)), ("r",)), (LEAF, ("x",)), (LEAF, ("v", "c")), (LEAF, "r"), (LEAF, ["r"]),
            (LEAF, ()), (LEAF,), (LEAF, ("r",), ("r",)), [LEAF, ("r",)], (((0,), (False,)), ("r",)), (((9,), ()),
                                                                                                      ("r",)),
            (None, ("r",)), ((0, 0), ("r",)), (LEAF, ("p",)), (LEAF, None), (LEAF, ("p", "r")), LEAF,
        ]
        for state in (*odd, *everything()):
            with self.subTest(state=state):
                self.assert_paper(False, ADDS, (state, *states))
                self.assert_paper(False, ADDS, (*states, state))
        # Equal numbers of other kinds stand for none.
        told = [(((False,), (False,)), side) if kind == LEAF else (kind, side) for kind, side in states]
        self.assertEqual(tuple(told), states)
        self.assert_paper(False, ADDS, tuple(told))

    def test_states_in_which_it_is_stuck(self):
        for book, careful in ((LOADS, False), (RING, False), (RING, True), (DEEP, False), (LATER, False)):
            states = met_states(book, careful=careful)
            self.assert_paper(False, book, states, careful)
            goods = [
                (kind, side) for kind, side in states
                if len(side) > 1 or side[0] in book.operators or pick(book, kind, side[0], careful=careful) is not None
            ]
            self.assert_paper(False, book, tuple(goods), careful)

    def test_modes(self):
        states = met_states(LOADS, careful=True)
        self.assert_paper(True, LOADS, states, True)
        self.assert_paper(False, LOADS, states, False)
        self.assertIs(is_stuck_paper(LOADS, ("stuck", ("s", "v")), careful=True), False)


class StuckPaperTest(RefusedTest):
    def test_other_trees(self):
        for book in SAMPLES:
            for careful in MODES:
                truth = Truth(book)
                for tree in made_trees(book, 5)[:60]:
                    right = truth.is_covered(tree, book.goal) and truth.greedy(tree, book.goal, careful)[1] is not None
                    self.assertIs(is_stuck_paper(book, ("stuck", tree), careful=careful), right)

    def test_examples(self):
        self.assertIs(is_stuck_paper(LOADS, ("stuck", ("s", "s", "v"))), True)
        self.assertIs(is_stuck_paper(LOADS, ("stuck", ("s", "c"))), False)

    def test_no_trees(self):
        odd = [("s",), ("s", "v", "v"), ["s", "v"], "s v", (), ("_",), ("s", "_"), ("s", "x"), ("s",) * 5000 + ("v",),
               None]
        for value in (*odd, *everything()):
            with self.subTest(value=value):
                self.assertIs(is_stuck_paper(LOADS, ("stuck", value)), False)
        self.assertIs(is_stuck_paper(LOADS, ("stuck", ("s",) * 4999 + ("v",))), True)

    def test_every_value_is_judged(self):
        good = ("never", met_states(STEPS))
        odd = [good[:1], good + ((),), list(good), ("Never", good[1]), ("stuck", good[1]), good[1], "never", None]
        odd += [("stuck",), ("never",), (good,), {good[0]: good[1]}, (True, good[1]), ((), good[1]),
                (["never"], good[1])]
        for value in (*odd, *everything()):
            with self.subTest(value=value):
                self.assertIs(is_stuck_paper(STEPS, value), False)
        self.assertIs(is_stuck_paper(STEPS, good), True)
        self.assertIs(is_stuck_paper(LOADS, ["stuck", ("s", "v")]), False)
        for word in ("Stuck", "", "never", None, 0, True, ("stuck",), ["stuck"], {}):
            self.assertIs(is_stuck_paper(LOADS, (word, ("s", "v"))), False)
            self.assertIs(is_stuck_paper(STEPS, (word, good[1])), word == "never")
        self.assertIs(is_stuck_paper(LOADS, ("stuck", ("s", "v"), ())), False)


class ErrorsTest(RefusedTest):
    def test_errors_in_their_order(self):
        books = wrong_values(InvalidBook, None, STEPS.lines, "STEPS")
        modes = wrong_values(InvalidOperation, 0, 1, None, "True", [], ())
        for function in FUNCTIONS:
            self.assert_order(lambda book, careful: function(book, careful=careful), (LOADS, books), (True, modes))
        call = lambda book, careful: is_stuck_paper(book, None, careful=careful)
        self.assert_order(call, (LOADS, books), (True, modes))

    def test_too_many_kinds_come_last(self):
        for careful in MODES:
            for function in FUNCTIONS:
                self.assert_refused(TooMany, 60, function, SIXTY_ONE, careful=careful)
            for value in (None, ("stuck", ("c",)), ("never", ())):
                self.assert_refused(TooMany, 60, is_stuck_paper, SIXTY_ONE, value, careful=careful)
        for function in FUNCTIONS:
            self.assert_refused(InvalidOperation, None, function, SIXTY_ONE, careful=0)

    def test_other_values(self):
        for value in others(lambda value: isinstance(value, Book)):
            for function in FUNCTIONS:
                self.assert_refused(InvalidBook, None, function, value)
            self.assert_refused(InvalidBook, None, is_stuck_paper, value, None)
        for value in others(lambda value: value is True or value is False):
            for function in FUNCTIONS:
                self.assert_refused(InvalidOperation, None, function, STEPS, careful=value)
            self.assert_refused(InvalidOperation, None, is_stuck_paper, STEPS, None, careful=value)

    def test_equal_calls_return_equal_results(self):
        for book in SAMPLES[:10]:
            for function in FUNCTIONS:
                self.assertEqual(function(book), function(book))
                self.assertEqual(function(book), function(book, careful=False))


if __name__ == "__main__":
    unittest.main()
