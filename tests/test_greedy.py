"""Stage 6: the greedy selector, sides and prices at places (0.2, 0.4, 0.5, 0.11, 0.13, 0.17, 0.18)."""

import unittest

from munchbehind.base.books import Book
from munchbehind.cover.covers import cheapest_price, is_cover
from munchbehind.cover.greedy import excess, greedy, greedy_price, pick, prices_at, sides_of, stuck_at
from munchbehind.errors import InvalidBook, InvalidCover, InvalidKind, InvalidOperation, InvalidTree, Stuck, UnknownName
from munchbehind.match.kinds import Kinds
from tests.oracles import ADDS, EXAMPLES, LOADS, RING, SIXTY_ONE, STEPS, Truth, made_trees, random_book
from tests.refused import RefusedTest, wrong_values
from tests.values import everything, others

SIX = ("s",) * 6 + ("c",)
ROW = ("s",) * 4999 + ("c",)
COMB = ("p",) * 2499 + ("c",) * 2500
RIGHT = ("p", "v") * 2499 + ("c",)
ROUND = Book.from_lines(
    "op c 0", "op s 1", "goal a", "rule a 1 b", "rule b 2 a", "rule b 2 d", "rule d 3 a", "rule d 0 b", "rule a 0 s d",
    "rule d 5 c", "rule b 4 s c", "rule b 1 s b", "rule a 1 s s a",
)
SAMPLES = (*EXAMPLES, ROUND, *[random_book(seed, 9, 6, 3) for seed in range(20)])
NO_BOOKS = others(lambda value: isinstance(value, Book))
NO_CAREFUL = others(lambda value: value is True or value is False)
FUNCTIONS = (greedy, stuck_at, greedy_price, excess)


class PickTest(RefusedTest):
    def test_examples(self):
        self.assertEqual(pick(LOADS, ((1, 2), (2,)), "r"), (0,))
        self.assertEqual(pick(LOADS, ((1, 2), (2,)), "r", careful=True), (1,))
        self.assertEqual(pick(LOADS, ((0,), (0,)), "r"), (4, 3))
        self.assertIs(pick(RING, ((0,), (0,)), "n"), None)

    def test_kinds_of_trees(self):
        for book in SAMPLES:
            truth = Truth(book)
            for tree in made_trees(book, 5)[:80]:
                kind = truth.kind(tree)
                for word in book.nonterminals:
                    for careful in (False, True):
                        _, _, right = truth.walk(tree, word, careful)[0]
                        self.assertEqual(pick(book, kind, word, careful=careful), right)

    def test_pairs_that_are_no_kinds(self):
        # Parts of two operators match at once; one is ready though nothing below it is.
        parts = STEPS.parts
        one, four = parts.index(("s", "r")), parts.index(("s",) * 4 + ("r",))
        self.assertEqual(pick(STEPS, ((0, one), ()), "r"), (2,))
        self.assertIs(pick(STEPS, ((0, one), ()), "r", careful=True), None)
        self.assertEqual(pick(STEPS, ((0, one), (0,)), "r", careful=True), (3,))
        self.assertEqual(pick(STEPS, ((one, four), (one,)), "r"), (0,))
        self.assertEqual(pick(STEPS, ((one, four), (one,)), "r", careful=True), (2,))
        self.assertEqual(pick(STEPS, ((four,), (four,)), "r", careful=True), (0,))
        self.assertIs(pick(STEPS, ((), ()), "r"), None)
        self.assertIs(pick(STEPS, ((), ()), "r", careful=True), None)

    def test_chain_rules_of_pairs_that_are_no_kinds(self):
        book = Book.from_lines("op c 0", "op v 0", "goal r", "rule r 1 a", "rule r 1 b", "rule a 0 v", "rule b 0 c")
        self.assertIs(pick(book, ((0,), (0,)), "r"), None)
        self.assertEqual(pick(book, ((0,), (0,)), "r", careful=True), (1, 3))
        self.assertEqual(pick(book, ((0, 1), (0,)), "r"), (0, 2))
        self.assertEqual(pick(book, ((0, 1), (0,)), "r", careful=True), (1, 3))
        self.assertIs(pick(book, ((0, 1), ()), "r", careful=True), None)
        self.assertEqual(pick(book, ((0, 1), (0, 1)), "r", careful=True), (0, 2))
        self.assertEqual(pick(book, ((0, 1), (1,)), "a", careful=True), (2,))
        self.assertIs(pick(book, ((0, 1), (1,)), "b", careful=True), None)

    def test_round_and_round(self):
        kind = Kinds(ROUND).of_tree(("c",))
        self.assertEqual(pick(ROUND, kind, "a"), (0, 2, 6))
        self.assertIs(pick(ROUND, kind, "b"), None)
        self.assertIs(pick(ROUND, kind, "d"), None)
        self.assertIs(pick(ROUND, kind, "d", careful=True), None)
        self.assertEqual(pick(RING, ((0,), (0,)), "m"), (2, 1))
        self.assertIs(pick(RING, ((0,), (0,)), "n", careful=True), None)
        self.assertEqual(pick(RING.moved(1, 0), ((0,), (0,)), "n"), (0,))

    def test_errors_in_their_order(self):
        books = wrong_values(InvalidBook, None, LOADS.lines)
        kinds = wrong_values(InvalidKind, None, ((9,), ()), ((0,), (True,)), [(), ()], ((), (0,)), (((0,), (0,)),))
        names = wrong_values(UnknownName, "c", "x", None, 0, ("r",), ["r"])
        careful = wrong_values(InvalidOperation, 0, 1, None, "True", [])
        call = lambda book, kind, name, mode: pick(book, kind, name, careful=mode)
        self.assert_order(call, (LOADS, books), (((0,), (0,)), kinds), ("a", names), (True, careful))

    def test_other_values(self):
        kind = ((0,), (0,))
        for value in NO_BOOKS:
            self.assert_refused(InvalidBook, None, pick, value, kind, "r")
        for value in others(lambda value: value in (kind, ((), ()))):
            self.assert_refused(InvalidKind, None, pick, STEPS, value, "r")
        for value in others(lambda value: value == "r"):
            self.assert_refused(UnknownName, value, pick, STEPS, kind, value)
        for value in NO_CAREFUL:
            self.assert_refused(InvalidOperation, None, pick, STEPS, kind, "r", careful=value)


class GreedyTest(RefusedTest):
    def test_examples(self):
        self.assertEqual((greedy(STEPS, SIX), greedy_price(STEPS, SIX), excess(STEPS, SIX)), ((0, 2, 2, 3), 3, 1))
        self.assertEqual((excess(ADDS, ("p", "p", "v", "c", "c")), stuck_at(LOADS, ("s", "v"))), (4, 1))
        self.assertEqual((greedy(LOADS, ("s", "v"), careful=True), greedy(LOADS, ("c",))), ((1, 2), (4, 3)))
        self.assertEqual((stuck_at(RING, ("c",), careful=True), excess(LOADS, ("s", "v"))), (0, None))

    def test_small_trees(self):
        for book in SAMPLES:
            truth = Truth(book)
            for tree in made_trees(book, 5)[:100]:
                for start in (None, *book.nonterminals):
                    for careful in (False, True):
                        with self.subTest(book=book.lines, tree=tree, start=start, careful=careful):
                            self.check(book, truth, tree, start, careful)

    def check(self, book, truth, tree, start, careful):
        cover, place = truth.greedy(tree, start or book.goal, careful)
        more = {"start": start, "careful": careful}
        self.assertEqual(stuck_at(book, tree, **more), place)
        if cover is None:
            self.assert_refused(Stuck, place, greedy, book, tree, **more)
            self.assertEqual((greedy_price(book, tree, **more), excess(book, tree, **more)), (None, None))
            return
        least = min(truth.price(other) for other in truth.covers(tree, start or book.goal))
        self.assertEqual((greedy(book, tree, **more), stuck_at(book, tree, **more)), (cover, None))
        self.assertEqual(greedy_price(book, tree, **more), truth.price(cover))
        self.assertEqual(excess(book, tree, **more), truth.price(cover) - least)

    def test_defaults(self):
        for tree in (("s", "v"), ("c",), ("s", "c"), ("s", "s", "v")):
            for function in (stuck_at, greedy_price, excess):
                self.assertEqual(function(LOADS, tree), function(LOADS, tree, careful=False, start="r"))

    def test_stuck_at_the_first_place(self):
        book = Book.from_lines("op c 0", "op v 0", "op p 2", "goal r", "rule r 1 p r r", "rule r 0 c")
        self.assertEqual(stuck_at(book, ("p", "p", "c", "v", "v")), 3)
        self.assertEqual(stuck_at(book, ("p", "v", "v")), 1)
        self.assertEqual(stuck_at(book, ("p", "c", "p", "c", "v")), 4)
        self.assertEqual(stuck_at(book, ("p", "p", "c", "v", "v"), careful=True), 0)
        self.assertEqual(stuck_at(book, ("v",)), 0)
        self.assert_refused(Stuck, 3, greedy, book, ("p", "p", "c", "v", "v"))
        self.assertIs(stuck_at(book, ("p", "c", "c")), None)

    def test_trees_without_covers(self):
        empty = Book.from_lines("op c 0", "goal r")
        self.assertEqual((stuck_at(empty, ("c",)), greedy_price(empty, ("c",)), excess(empty, ("c",))), (0, None, None))
        self.assert_refused(Stuck, 0, greedy, empty, ("c",))

    def test_there_is_no_limit_of_kinds(self):
        for tree in (("c",), ("p", "c", "c"), ("p", "p", "c", "c", "c")):
            truth = Truth(SIXTY_ONE)
            for careful in (False, True):
                self.assertEqual(stuck_at(SIXTY_ONE, tree, careful=careful), truth.greedy(tree, "a", careful)[1])

    def test_long_trees(self):
        self.assertEqual((greedy(STEPS, ROW), greedy_price(STEPS, ROW)), ((0,) * 1249 + (1, 3), 1250))
        self.assertEqual((greedy(STEPS, ROW[1:]), excess(STEPS, ROW[1:])), ((0,) * 1249 + (2, 2, 3), 1))
        for book, tree in ((ADDS, COMB), (ADDS, RIGHT), (STEPS, ROW), (LOADS, ROW), (ROUND, ROW)):
            for careful in (False, True):
                place = stuck_at(book, tree, careful=careful)
                if place is not None:
                    self.assert_refused(Stuck, place, greedy, book, tree, careful=careful)
                    continue
                cover = greedy(book, tree, careful=careful)
                self.assertIs(is_cover(book, tree, cover), True)
                price = greedy_price(book, tree, careful=careful)
                self.assertEqual(excess(book, tree, careful=careful), price - cheapest_price(book, tree))
                self.assertEqual((len(sides_of(book, tree, cover)), sum(prices_at(book, tree, cover))),
                                 (len(tree), price))
        self.assertEqual(excess(ADDS, COMB), 2 * 2499)
        self.assertEqual((stuck_at(LOADS, ("s",) * 4999 + ("v",)), stuck_at(LOADS, ROW)), (1, 1))
        self.assertIs(stuck_at(LOADS, ("s",) * 4999 + ("v",), careful=True), None)

    def test_errors_in_their_order(self):
        slots = [
            (LOADS, wrong_values(InvalidBook, None, LOADS.lines)),
            (("c",), wrong_values(InvalidTree, ("s",), None, ["c"], ())),
            (True, wrong_values(InvalidOperation, 0, 1, None, "True", [])),
            ("r", wrong_values(UnknownName, "c", "x", 0, ("r",), [])),
        ]
        for function in FUNCTIONS:
            call = lambda book, tree, careful, start: function(book, tree, careful=careful, start=start)
            self.assert_order(call, *slots)
        # Being stuck is told behind all others.
        wrong = [(("s", "v"), Stuck, 1)]
        call = lambda book, tree, careful, start: greedy(book, tree, careful=careful, start=start)
        names = wrong_values(UnknownName, "c", 0)
        modes = wrong_values(InvalidOperation, 0, None)
        for careful, *_ in [(False,), *modes]:
            for start, *_ in [("r",), *names]:
                if careful is not False:
                    self.assert_refused(InvalidOperation, None, call, LOADS, wrong[0][0], careful, start)
                elif start != "r":
                    self.assert_refused(UnknownName, start, call, LOADS, wrong[0][0], careful, start)
                else:
                    self.assert_refused(Stuck, 1, call, LOADS, wrong[0][0], careful, start)

    def test_other_values(self):
        for function in FUNCTIONS:
            for value in NO_BOOKS:
                self.assert_refused(InvalidBook, None, function, value, ("c",))
            for value in others(lambda value: value == ("c",)):
                self.assert_refused(InvalidTree, None, function, STEPS, value)
            for value in NO_CAREFUL:
                self.assert_refused(InvalidOperation, None, function, STEPS, ("c",), careful=value)
            for value in others(lambda value: value is None or value == "r"):
                self.assert_refused(UnknownName, value, function, STEPS, ("c",), start=value)


class SidesTest(RefusedTest):
    def test_examples(self):
        self.assertEqual(sides_of(ADDS, ("p", "v", "c"), (0, 3)), (("r",), ("r",), ("c",)))
        self.assertEqual(prices_at(ADDS, ("p", "v", "c"), (0, 3)), (3, 0, 0))
        self.assertEqual(sides_of(ADDS, ("p", "v", "c"), (1, 3, 2)), (("r",), ("r",), ("r",)))

    def test_all_covers_of_small_trees(self):
        for book in SAMPLES:
            truth = Truth(book)
            for tree in made_trees(book, 5)[:60]:
                for start in (None, *book.nonterminals):
                    for cover in truth.covers(tree, start or book.goal)[:25]:
                        told = (sides_of(book, tree, cover, start=start), prices_at(book, tree, cover, start=start))
                        self.assertEqual(told, truth.sides(tree, cover, start or book.goal))
                        self.assertEqual(sum(told[1]), truth.price(cover))

    def test_patterns_of_several_levels_and_chain_rules(self):
        book = Book.from_lines(
            "op c 0", "op p 2", "op s 1", "goal r", "rule r 1 a", "rule a 2 p s p a c s b", "rule a 4 b", "rule b 3 c",
        )
        tree = ("p", "s", "p", "c", "c", "s", "c")
        inside = (("s", "p", "a", "c"), ("p", "a", "c"))
        right = (("r",), *inside, ("a",), ("c",), ("s", "b"), ("b",))
        self.assertEqual(sides_of(book, tree, (0, 1, 2, 3, 3)), right)
        self.assertEqual(prices_at(book, tree, (0, 1, 2, 3, 3)), (3, 0, 0, 7, 0, 0, 3))
        self.assertEqual(sides_of(book, tree, (1, 2, 3, 3), start="a")[0], ("a",))

    def test_errors_in_their_order(self):
        slots = [
            (STEPS, wrong_values(InvalidBook, None, STEPS.lines)), (SIX,
                                                                    wrong_values(InvalidTree, ("s",), None, list(SIX))),
            ("r", wrong_values(UnknownName, "c", "x", 0, ("r",), [])),
            ((1, 1, 3), wrong_values(InvalidCover, (1, 1), None, (True, 1, 3), [1, 1, 3])),
        ]
        for function in (sides_of, prices_at):
            self.assert_order(lambda book, tree, start, cover: function(book, tree, cover, start=start), *slots)
            for value in (*everything(), (3,), (1, 1, 3, 3), (0, 3)):
                if value != (0, 2, 2, 3):
                    self.assert_refused(InvalidCover, None, function, STEPS, SIX, value)
            self.assert_refused(InvalidCover, None, function, LOADS, ("c",), (4, 3), start="a")


class MainStatementsTest(RefusedTest):
    def trees(self):
        for book in SAMPLES:
            for tree in made_trees(book, 5)[:80]:
                yield book, tree

    def test_careful_selectors_make_the_covers_of_blind_ones(self):
        for book, tree in self.trees():
            if stuck_at(book, tree) is None:
                self.assertEqual(greedy(book, tree, careful=True), greedy(book, tree))

    def test_prices_times_a_number(self):
        for book, tree in self.trees():
            for number in (0, 2):
                other = book.scaled(number) if max(rule[1] for rule in book.rules) <= 4 or not number else book
                number = number if other != book else 1
                for careful in (False, True):
                    told = excess(book, tree, careful=careful)
                    right = None if told is None else told * number
                    self.assertEqual(excess(other, tree, careful=careful), right)

    def test_one_rule_for_each_nonterminal(self):
        book = Book.from_lines("op c 0", "op v 0", "op p 2", "goal r", "rule r 4 p r a", "rule a 9 c", "rule r 3 v")
        told = [excess(book, tree) for tree in made_trees(book, 7)]
        self.assertEqual(set(told), {0, None})

    def test_orders_of_different_nonterminals(self):
        for book in SAMPLES:
            order = tuple(sorted(range(len(book)), key=lambda index: (book.rules[index][0], index)))
            for tree in made_trees(book, 4)[:40]:
                for careful in (False, True):
                    told = excess(book, tree, careful=careful)
                    self.assertEqual(excess(book.ordered(order), tree, careful=careful), told)

    def test_what_is_not_true(self):
        # A careful selector is stuck in a tree that has a cover.
        self.assertEqual((stuck_at(RING, ("c",), careful=True), is_cover(RING, ("c",), (1,))), (0, True))
        # All rules cost the same, and larger patterns come first.
        book = STEPS.with_price(3, 1)
        self.assertEqual((book.largest_first(), {rule[1] for rule in book.rules}), (book, {1}))
        self.assertEqual(excess(book, SIX), 1)
        # No tree with one level more than any pattern is behind, but another one is.
        deeper = max(len(rule[2]) for rule in STEPS.rules) + 1
        self.assertEqual({excess(STEPS, ("s",) * many + ("c",)) for many in range(deeper)}, {0})
        self.assertEqual(excess(STEPS, SIX), 1)
        # A subtree is further behind than its tree.
        book = Book.from_lines("op c 0", "op s 1", "op t 1", "goal r", "rule r 0 t s c", "rule r 0 t r", "rule r 5 s r",
                               "rule r 0 s c", "rule r 0 c")
        self.assertEqual((excess(book, ("s", "c")), excess(book, ("t", "s", "c"))), (5, 0))
        # A rule that is never used makes the cheapest covers cheaper.
        book = Book.from_lines("op c 0", "goal r", "rule r 2 c", "rule r 0 a", "rule a 1 c")
        self.assertEqual((greedy(book, ("c",)), excess(book, ("c",))), ((0,), 1))
        self.assertEqual(excess(book.without_rule(2), ("c",)), 0)


class FourBooksTest(RefusedTest):
    def test_steps_are_never_more_than_one_behind(self):
        told = [excess(STEPS, ("s",) * many + ("c",)) for many in range(60)]
        self.assertEqual((set(told), told.index(1)), ({0, 1}, 6))

    def test_adds_are_two_behind_at_some_sums(self):
        for tree in made_trees(ADDS, 7):
            ops = ADDS.operators
            sums = [at for at, word in enumerate(tree) if word == "p" and tree[ops.children(tree, at)[1]] == "c"]
            self.assertEqual((excess(ADDS, tree), excess(ADDS, tree, careful=True)), (2 * len(sums), 2 * len(sums)))

    def test_loads_and_ring(self):
        for many in range(1, 9):
            rows = [("s",) * many + (last,) for last in ("c", "v")]
            self.assertEqual([stuck_at(LOADS, tree, careful=True) for tree in rows], [None, None])
        self.assertEqual((stuck_at(LOADS, ("s", "v")), stuck_at(LOADS, ("s", "c"))), (1, None))
        self.assertEqual((stuck_at(RING, ("c",)), stuck_at(RING, ("c",), careful=True)), (0, 0))


class UnchangedTest(RefusedTest):
    def test_equal_calls_return_equal_results(self):
        for book, tree in ((STEPS, SIX), (ADDS, ("p", "p", "v", "c", "c")), (LOADS, ("s", "s", "c"))):
            lines = book.lines
            told = []
            for _ in range(3):
                modes = [stuck_at(book, tree, careful=careful) for careful in (False, True)]
                told.append((modes, excess(book, tree), greedy_price(book, tree)))
            self.assertEqual((told[0], told[0], lines), (told[1], told[2], book.lines))

    def test_results_are_tuples(self):
        told = (greedy(STEPS, SIX), sides_of(STEPS, SIX, (1, 1, 3)), prices_at(STEPS, SIX, (1, 1, 3)))
        picked = pick(STEPS, ((0,), (0,)), "r")
        self.assertTrue(all(type(value) is tuple for value in (*told, picked, told[1][0])))


if __name__ == "__main__":
    unittest.main()
