"""Stage 7: pair states and their moves (0.2, 0.4, 0.13, 0.14)."""

import unittest

from munchbehind.base.books import Book
from munchbehind.cover.covers import cheapest, cover_price
from munchbehind.cover.greedy import greedy_price
from munchbehind.decide.pairs import Pairs
from munchbehind.errors import InvalidBook, InvalidCover, InvalidOperation, InvalidState, InvalidTree, Stuck, TooMany
from tests.oracles import (
    ADDS, EXAMPLES, LOADS, ONE_MORE, RING, SIX_HUNDRED, SIXTY, SIXTY_ONE, STEPS, Truth, below, end, made_trees,
    random_book,
)
from tests.refused import RefusedTest, wrong_values
from tests.values import everything, others

CHAIN = Book.from_lines(
    "op c 0", "op s 1", "goal a", "rule a 1 b", "rule b 2 a", "rule a 0 s s b", "rule b 1 s a", "rule b 0 c",
    "rule a 3 c", "rule a 2 s b",
)
SAMPLES = (*EXAMPLES, CHAIN, *[random_book(seed, 7, 5, 2) for seed in range(25)])
NO_BOOKS = others(lambda value: isinstance(value, Book))
NO_CAREFUL = others(lambda value: value is True or value is False)
MODES = (False, True)
R, C = ("r",), ("c",)
LEAF, SUM = ((0,), (0,)), ((1, 2), (1, 2))


def rows(book, most):
    return [("s",) * many + ("c",) for many in range(most)]


class StatesTest(RefusedTest):
    def test_examples(self):
        pairs = Pairs(ADDS)
        self.assertEqual(str(pairs), "6 pair states, 4 starts")
        self.assertEqual(pairs.states[:2], ((LEAF, C, C), (LEAF, C, R)))
        self.assertEqual(len(pairs.moves((SUM, R, R))), 8)
        self.assertEqual(pairs.moves((SUM, R, R))[1], ("p", ((LEAF, R, R), (LEAF, C, R)), 3, 1))
        self.assertEqual(pairs.along(("p", "v", "c"), (1, 3, 2))[2], pairs.states[1])
        told = (len(Pairs(LOADS)), len(Pairs(LOADS, careful=True)), len(Pairs(RING)), pairs.tree_of(pairs.states[1]))
        self.assertEqual(told, (5, 6, 0, ("c",)))

    def test_all_states_of_the_examples(self):
        for book, most in ((STEPS, 14), (ADDS, 7), (LOADS, 9), (RING, 1)):
            for careful in MODES:
                truth, found = Truth(book), set()
                for tree in made_trees(book, most):
                    found |= truth.pair_states(tree, careful)
                self.assertEqual(Pairs(book, careful=careful).states, tuple(sorted(found)))

    def test_states_of_small_trees(self):
        for book in SAMPLES:
            for careful in MODES:
                truth, pairs, found = Truth(book), Pairs(book, careful=careful), set()
                for tree in made_trees(book, 6)[:300]:
                    found |= truth.pair_states(tree, careful)
                self.assertEqual(found - set(pairs.states), set())
                for state in pairs.starts:
                    self.assertEqual(state[1:], ((book.goal,), (book.goal,)))

    def test_each_state_is_productive_and_met(self):
        for book in SAMPLES:
            for careful in MODES:
                truth, pairs = Truth(book), Pairs(book, careful=careful)
                met = set(pairs.starts)
                for state in pairs.states:
                    tree = pairs.tree_of(state)
                    self.assertEqual(truth.kind(tree), state[0])
                    self.assertTrue(truth.is_side_covered(tree, 0, state[2]))
                    walked = truth._walk(tree, 0, state[1], careful)
                    self.assertTrue(all(used is not None for _, _, used in walked))
                    for move in pairs.moves(state):
                        met |= set(move[1])
                self.assertEqual(met, set(pairs.states))
                goal = (book.goal,)
                starts = tuple(state for state in pairs.states if state[1:] == (goal, goal))
                self.assertEqual(pairs.starts, starts)

    def test_as_few_places_as_possible(self):
        for book in SAMPLES:
            for careful in MODES:
                truth, pairs = Truth(book), Pairs(book, careful=careful)
                least = {}
                for tree in made_trees(book, 5)[:150]:
                    kind = truth.kind(tree)
                    for side in {state[1] for state in pairs.states if state[0] == kind}:
                        if truth.leaves(side, tree, 0) is None:
                            continue
                        if all(used is not None for _, _, used in truth._walk(tree, 0, side, careful)):
                            least.setdefault((kind, side), len(tree))
                for state in pairs.states:
                    many = least.get(state[:2])
                    self.assertTrue(many is None or len(pairs.tree_of(state)) == many)

    def test_books_without_useful_states(self):
        empty = Book.from_lines("op c 0", "goal r")
        endless = Book.from_lines("op s 1", "goal r", "rule r 1 s r")
        for book in (RING, empty, endless):
            for careful in MODES:
                pairs = Pairs(book, careful=careful)
                self.assertEqual((pairs.states, pairs.starts, len(pairs), list(pairs)), ((), (), 0, []))
                self.assertEqual(str(pairs), "0 pair states, 0 starts")
                self.assert_refused(InvalidState, None, pairs.moves, (LEAF, ("n",), ("n",)))

    def test_dead_ends_are_left_out(self):
        # Below the first rule the blind selector is always stuck.
        book = Book.from_lines(
            "op c 0", "op s 1", "op t 1", "goal r", "rule r 1 s a", "rule r 2 t r", "rule r 0 c", "rule r 1 s r",
        )
        for state in Pairs(book).states:
            self.assertNotEqual(state[1], ("a",))
            self.assertNotEqual(book.parts[state[0][0][0]][0], "s")
        self.assertTrue(any(book.parts[state[0][0][0]][0] == "s" for state in Pairs(book, careful=True).states))


class MovesTest(RefusedTest):
    def test_moves_of_small_trees(self):
        for book in SAMPLES:
            for careful in MODES:
                truth, pairs = Truth(book), Pairs(book, careful=careful)
                told = {}
                for state in pairs.states:
                    for operator, states, price, other in pairs.moves(state):
                        told[state, operator, states, price] = other
                for key, other in self.seen_moves(book, truth, careful).items():
                    self.assertLessEqual(told[key], other)

    def seen_moves(self, book, truth, careful):
        seen = {}
        for tree in made_trees(book, 5)[:120]:
            cover, _ = truth.greedy(tree, book.goal, careful)
            if cover is None:
                continue
            mine, prices = truth.sides(tree, cover, book.goal)
            kinds = [truth.kind(truth.subtree(tree, at)) for at in range(len(tree))]
            for other in truth.covers(tree, book.goal)[:60]:
                sides, others_prices = truth.sides(tree, other, book.goal)
                states = list(zip(kinds, mine, sides))
                for at, state in enumerate(states):
                    lower = tuple(states[child] for child in below(tree, truth.arities, at))
                    key = (state, tree[at], lower, prices[at])
                    seen[key] = min(seen.get(key, 10 ** 9), others_prices[at])
        return seen

    def test_moves_by_their_words(self):
        for book in SAMPLES[:16]:
            for careful in MODES:
                truth, pairs = Truth(book), Pairs(book, careful=careful)
                trees = {}
                for state in pairs.states:
                    trees.setdefault(state[:2], pairs.tree_of(state))
                for state in pairs.states:
                    self.check_moves(truth, pairs, careful, state, trees)

    def check_moves(self, truth, pairs, careful, state, trees):
        """Each move is one, by trees of its states, and the least price is right."""
        moves = pairs.moves(state)
        self.assertEqual(moves, tuple(sorted(set(moves))))
        self.assertEqual(len({move[:2] for move in moves}), len(moves))
        for operator, states, price, other in moves:
            tree = (operator,) + sum([trees[low[:2]] for low in states], ())
            self.assertEqual(truth.kind(tree), state[0])
            walked = truth._walk(tree, 0, state[1], careful)
            children = below(tree, truth.arities, 0)
            self.assertEqual([low[1] for low in states], [side for at, side, _ in walked if at in children])
            self.assertEqual(price, truth.price(walked[0][2]))
            self.assertEqual(other, self.least_price(truth, state[2], operator, [low[2] for low in states]))

    def least_price(self, truth, side, operator, sides):
        """The least price of rules that lead from a side to an operator above some sides."""
        whole = (operator,) + sum(sides, ())
        if side[0] in truth.arities:
            self.assertEqual(side, whole)
            return 0
        best = {side[0]: 0}
        for _ in range(7):
            for name, price, pattern in truth.rules:
                if name in best and pattern[0] not in truth.arities:
                    best[pattern[0]] = min(best.get(pattern[0], 999), best[name] + price)
        return min(best[name] + price for name, price, pattern in truth.rules if name in best and pattern == whole)

    def test_prices_lead_to_prices_of_covers(self):
        for book, tree in ((STEPS, ("s",) * 9 + ("c",)), (ADDS, ("p", "p", "v", "c", "c")),
                           (CHAIN, ("s",) * 7 + ("c",))):
            pairs = Pairs(book)
            cover = cheapest(book, tree)
            states = pairs.along(tree, cover)
            mine = other = 0
            for at, state in enumerate(states):
                lower = tuple(states[child] for child in below(tree, book.operators.arities, at))
                [move] = [move for move in pairs.moves(state) if move[:2] == (tree[at], lower)]
                mine, other = mine + move[2], other + move[3]
            self.assertEqual((mine, other), (greedy_price(book, tree), cover_price(book, tree, cover)))

    def test_cheap_chain_rules_among_dear_ones(self):
        book = Book.from_lines("op c 0", "goal a", "rule a 9 c", "rule a 5 b", "rule b 1 c", "rule a 1 d", "rule d 1 b")
        pairs = Pairs(book)
        self.assertEqual(pairs.moves((LEAF, ("a",), ("a",))), (("c", (), 9, 3),))
        self.assertEqual(len(pairs), 1)

    def test_other_values_are_no_states(self):
        pairs = Pairs(ADDS)
        good = pairs.states[0]
        odd = [good[:2], good + (R,), list(good), (LEAF, R, ("x",)), (LEAF, ("v",), R), (((), ()), R, R), (SUM, C, R)]
        odd += [(LEAF, "c", C), (LEAF, ["c"], C), (((0,), (False,)), C, C), (((False,), (0,)), C, C), ([0], C, C)]
        odd += [(LEAF, C, ("p", "r", "c")), (SUM, ("p", "r", "c"), R), ((LEAF, C, C),), (LEAF, (), C), (None, C, C)]
        for value in (*others(lambda value: value == (LEAF, R, R)), *odd):
            with self.subTest(value=value):
                self.assertIs(value in pairs, False)
                self.assert_refused(InvalidState, None, pairs.moves, value)
                self.assert_refused(InvalidState, None, pairs.tree_of, value)
        self.assertTrue(all(state in pairs for state in pairs.states))


class LimitTest(RefusedTest):
    def test_just_six_hundred_and_one_more(self):
        for book, many in ((SIX_HUNDRED, 600), (ONE_MORE, 601)):
            truth, found = Truth(book), set()
            for tree in rows(book, 80):
                found |= truth.pair_states(tree, False)
            self.assertEqual(len(found), many)
            if many == 600:
                pairs = Pairs(book)
                self.assertEqual((pairs.states, len(pairs)), (tuple(sorted(found)), 600))
            else:
                self.assert_refused(TooMany, 600, Pairs, book)

    def test_kinds_come_first(self):
        for careful in MODES:
            self.assert_refused(TooMany, 60, Pairs, SIXTY_ONE, careful=careful)
        for careful in MODES:
            try:
                pairs = Pairs(SIXTY, careful=careful)
                self.assertLessEqual(len(pairs), 600)
            except TooMany as error:
                self.assertEqual(error.limit, 600)

    def test_errors_in_their_order(self):
        call = lambda book, careful: Pairs(book, careful=careful)
        modes = wrong_values(InvalidOperation, 0, 1, None, "True", [], ())
        self.assert_order(call, (STEPS, wrong_values(InvalidBook, None, STEPS.lines)), (True, modes))
        for book in (SIXTY_ONE, ONE_MORE):
            for wrong in (0, 1, None):
                self.assert_refused(InvalidOperation, None, Pairs, book, careful=wrong)
        for value in NO_BOOKS:
            self.assert_refused(InvalidBook, None, Pairs, value, careful=0)
        for value in NO_CAREFUL:
            self.assert_refused(InvalidOperation, None, Pairs, STEPS, careful=value)


class AlongTest(RefusedTest):
    def test_small_trees(self):
        for book in SAMPLES:
            for careful in MODES:
                truth, pairs = Truth(book), Pairs(book, careful=careful)
                for tree in made_trees(book, 5)[:60]:
                    for cover in truth.covers(tree, book.goal)[:6]:
                        mine, place = truth.greedy(tree, book.goal, careful)
                        if mine is None:
                            self.assert_refused(Stuck, place, pairs.along, tree, cover)
                            continue
                        kinds = [truth.kind(truth.subtree(tree, at)) for at in range(len(tree))]
                        sides = [truth.sides(tree, told, book.goal)[0] for told in (mine, cover)]
                        self.assertEqual(pairs.along(tree, cover), tuple(zip(kinds, *sides)))
                        self.assertTrue(all(state in pairs for state in pairs.along(tree, cover)))

    def test_long_trees(self):
        tree = ("s",) * 4999 + ("c",)
        states = Pairs(STEPS).along(tree, (2,) * 4999 + (3,))
        self.assertEqual((len(states), states[0][1:], states[1][1:]), (5000, (R, R), (("s", "s", "s", "r"), R)))
        for tree, cover in ((("p",) * 2499 + ("c",) * 2500, (0,) * 2499 + (2,)), (("p", "c") * 2499 + ("v",), None)):
            cover = cheapest(ADDS, tree) if cover is None else cover
            states = Pairs(ADDS).along(tree, cover)
            self.assertEqual((len(states), {state[1] for state in states} <= {R, C}), (len(tree), True))

    def test_errors_in_their_order(self):
        pairs = Pairs(LOADS)
        trees = wrong_values(InvalidTree, ("s",), None, ["c"], (), ("x",))
        covers = wrong_values(InvalidCover, (3,), None, (4, True), [4, 3], (4,), (1, 2))
        self.assert_order(pairs.along, (("c",), trees), ((4, 3), covers))
        self.assert_refused(Stuck, 1, pairs.along, ("s", "v"), (1, 2))
        self.assert_refused(InvalidCover, None, pairs.along, ("s", "v"), (0, 2))
        self.assertEqual(len(Pairs(LOADS, careful=True).along(("s", "v"), (1, 2))), 2)
        for value in others(lambda value: value == ("c",)):
            self.assert_refused(InvalidTree, None, Pairs(STEPS).along, value, (3,))
        for value in everything():
            self.assert_refused(InvalidCover, None, Pairs(STEPS).along, ("c",), value)


class ObjectTest(RefusedTest):
    def test_properties_len_iterating_and_str(self):
        for book in SAMPLES:
            for careful in MODES:
                pairs = Pairs(book, careful=careful)
                self.assertEqual((pairs.book, pairs.is_careful), (book, careful))
                self.assertIs(pairs.is_careful, careful)
                self.assertEqual((list(pairs), len(pairs)), (list(pairs.states), len(pairs.states)))
                self.assertEqual(pairs.states, tuple(sorted(set(pairs.states))))
                self.assertEqual(str(pairs), f"{len(pairs)} pair states, {len(pairs.starts)} starts")
        self.assertIs(Pairs(STEPS).is_careful, False)

    def test_equal_ones_have_equal_books_and_modes(self):
        self.assertIs(Pairs(STEPS) == Pairs(Book.from_lines(*STEPS.lines), careful=False), True)
        self.assertIs(Pairs(STEPS) != Pairs(Book.from_lines(*STEPS.lines)), False)
        self.assertIs(Pairs(STEPS) == Pairs(STEPS, careful=True), False)
        self.assertIs(Pairs(STEPS) == Pairs(STEPS.moved(0, 1)), False)
        self.assertIs(Pairs(RING) != Pairs(LOADS), True)
        for value in (*everything(), STEPS, Pairs(STEPS).states):
            self.assertIs(Pairs(STEPS) == value, False)
            self.assertIs(Pairs(STEPS) != value, True)

    def test_equal_calls_return_equal_results(self):
        pairs, again = Pairs(ADDS), Pairs(ADDS)
        for _ in range(2):
            for state in pairs.states:
                self.assertEqual((pairs.moves(state), pairs.tree_of(state)), (again.moves(state), again.tree_of(state)))
                told = (pairs.states, pairs.starts, pairs.moves(state), pairs.tree_of(state), *pairs.moves(state))
                self.assertTrue(all(type(value) is tuple for value in told))
        self.assertEqual(end(("p", "c", "c"), {"p": 2, "c": 0}, 0), 3)


if __name__ == "__main__":
    unittest.main()
