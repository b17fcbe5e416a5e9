"""Questions that are asked again, of one book and of equal books that were made anew (0.2, 0.4)."""

import unittest
from random import Random
from unittest import mock

from munchbehind.base.books import Book
from munchbehind.cover.alike import MAX_GROUPS, alike_of
from munchbehind.cover.covers import cheapest, cheapest_price, cover_price, is_cover
from munchbehind.cover.greedy import excess, greedy, greedy_price, stuck_at
from munchbehind.decide.pairs import Pairs
from munchbehind.decide.papers import greatest_excess, is_paper, paper
from munchbehind.decide.pumps import Pump, is_pump
from munchbehind.decide.ratios import ratio
from munchbehind.decide.stuck import is_never_stuck, is_stuck_paper, met_states, stuck_paper, stuck_tree
from munchbehind.errors import InvalidOperation, Stuck, TooMany, UnknownName
from munchbehind.match import tables
from munchbehind.match.kinds import Kinds
from tests.deciding import FREE, MODES, SAMPLES, small_cuts
from tests.oracles import LOADS, RING, SIXTY, SIXTY_ONE, STEPS, Truth, made_trees, random_book
from tests.refused import RefusedTest

SMALL = Book.from_lines(
    "op c 0", "op s 1", "op p 2", "goal r", "rule r 1 p r s r", "rule r 2 p s r r", "rule r 0 c", "rule r 1 s p c r",
    "rule r 3 p r r", "rule r 1 s r",
)
MANY_KINDS = Book.from_lines(
    "op c 0", *[f"op {name} 1" for name in "abdefgh"], "goal r", "rule r 1 a b d e a a r", "rule r 1 d f h b a b r",
    "rule r 1 f a e h a d r", "rule r 1 h e a f a e r", "rule r 1 b h f d a f r", "rule r 1 e d b a a g r",
    "rule r 1 g g g g a h r", "rule r 1 a b d e b a r", "rule r 1 d f h b b b r", "rule r 1 f a e h b d r",
    "rule r 1 h e a f b e r", "rule r 1 b h f d b f r",
)
STUCK = (
    met_states, is_never_stuck, stuck_tree, stuck_paper, lambda book, careful: is_stuck_paper(book, None, careful=careful),
    lambda book, careful: is_stuck_paper(book, stuck_paper(book, careful=careful), careful=careful),
    lambda book, careful: Kinds(book).kinds, lambda book, careful: [Kinds(book).tree_of(kind) for kind in Kinds(book)],
    lambda book, careful: Pairs(book, careful=careful).states,
)


def again(book):
    return Book.from_lines(*book.lines)


class StuckTest(RefusedTest):
    def test_mixed_questions(self):
        rng = Random(1)
        for book in (SMALL, SIXTY, *SAMPLES):
            asked = [(call, careful) for call in STUCK[:-1] for careful in MODES] * 3
            rng.shuffle(asked)
            right = {}
            for call, careful in asked:
                if (call, careful) not in right:
                    right[call, careful] = call(again(book), careful=careful)
                self.assertEqual(call(book, careful=careful), right[call, careful])

    def test_many_kinds_at_each_call(self):
        for book in (MANY_KINDS, SIXTY_ONE):
            for one in (book, again(book)):
                for _ in range(3):
                    for call in STUCK:
                        for careful in MODES:
                            self.assert_refused(TooMany, 60, call, one, careful=careful)
                self.assert_refused(InvalidOperation, None, met_states, one, careful=0)
                self.assertEqual(greedy_price(one, ("c",)), cheapest_price(one, ("c",)))

    def test_kinds_are_found_once(self):
        for book in (SMALL, STEPS, MANY_KINDS):
            one = again(book)
            with mock.patch.object(tables, "Search", wraps=tables.Search) as searched:
                for _ in range(5):
                    for call in STUCK:
                        for careful in MODES:
                            try:
                                call(one, careful=careful)
                            except TooMany:
                                self.assertIs(book, MANY_KINDS)
                self.assertEqual(searched.call_count, 1)

    def test_answers_of_other_books_are_others(self):
        for book in (STEPS, SMALL, LOADS):
            for index in range(len(book)):
                other = book.without_rule(index)
                for careful in MODES:
                    met_states(book, careful=careful)
                    self.assertEqual(met_states(other, careful=careful), met_states(again(other), careful=careful))
                    self.assertEqual(greatest_excess(other, careful=careful), greatest_excess(again(other), careful=careful))
        self.assertEqual((stuck_tree(LOADS), stuck_tree(LOADS, careful=True), stuck_tree(LOADS)), (("s", "v"), None, ("s", "v")))


class PriceTest(RefusedTest):
    def questions(self, book, tree, careful, start):
        told = []
        for call in (greedy_price, excess, stuck_at):
            told.append(call(book, tree, careful=careful, start=start))
        told.append(cheapest_price(book, tree, start=start))
        try:
            told.append(greedy(book, tree, careful=careful, start=start))
        except Stuck as error:
            told.append(error.place)
        return told

    def test_against_books_that_were_just_made(self):
        rng = Random(4)
        for book in SAMPLES:
            asked = [
                (tree, careful, start) for tree in rng.sample(made_trees(book, 6), min(12, len(made_trees(book, 6))))
                for careful in MODES for start in (None, *book.nonterminals)
            ]
            rng.shuffle(asked)
            for tree, careful, start in asked * 2:
                right = self.questions(again(book), tree, careful, start)
                self.assertEqual(self.questions(book, tree, careful, start), right)

    def test_prices_of_all_starts(self):
        for book in SAMPLES:
            truth = Truth(book)
            for tree in made_trees(book, 5)[:60]:
                for start in book.nonterminals:
                    covers = truth.covers(tree, start)
                    least = min((truth.price(cover) for cover in covers), default=None)
                    self.assertEqual(cheapest_price(book, tree, start=start), least)
                    for careful in MODES:
                        cover, place = truth.greedy(tree, start, careful)
                        price = None if cover is None else truth.price(cover)
                        self.assertEqual(greedy_price(book, tree, careful=careful, start=start), price)
                        self.assertEqual(stuck_at(book, tree, careful=careful, start=start), place)
                        right = None if price is None else price - least
                        self.assertEqual(excess(book, tree, careful=careful, start=start), right)
                    if covers:
                        self.assertEqual(truth.price(cheapest(book, tree, start=start)), least)

    def test_great_trees_of_random_books(self):
        for seed in range(40):
            book, rng = random_book(seed), Random(seed)
            for _ in range(3):
                tree = self.grown(rng, book.operators.arities, 300)
                least = cheapest_price(book, tree)
                if least is not None:
                    cover = cheapest(book, tree)
                    self.assertEqual((is_cover(book, tree, cover), cover_price(book, tree, cover)), (True, least))
                for careful in MODES:
                    price = greedy_price(book, tree, careful=careful)
                    if price is not None:
                        cover = greedy(book, tree, careful=careful)
                        self.assertEqual((is_cover(book, tree, cover), cover_price(book, tree, cover)), (True, price))
                        self.assertEqual(excess(book, tree, careful=careful), price - least)
                    self.assertEqual(price is None, stuck_at(book, tree, careful=careful) is not None)

    def grown(self, rng, arities, size):
        words, awaited = [], 1
        while awaited:
            fits = [name for name in arities if (arities[name] == 0) == (awaited >= size - len(words))]
            words.append(rng.choice(fits or list(arities)))
            awaited += arities[words[-1]] - 1
            if len(words) > 4 * size:
                return ("c",)
        return tuple(words)

    def test_more_groups_than_are_kept(self):
        # From both nonterminals prices rise, but not alike, so no two rows are alike.
        book = Book.from_lines("op c 0", "op s 1", "op t 1", "goal r", "rule r 1 s r", "rule r 1 t r", "rule a 3 s a",
                               "rule a 2 t a", "rule r 0 c", "rule a 0 c")
        for _ in range(2):
            for first, other in (("s", "t"), ("t", "s")):
                tree = (first,) * 2000 + (other,) * 2999 + ("c",)
                dear = 3 * tree.count("s") + 2 * tree.count("t")
                for careful in MODES:
                    told = [greedy_price(book, tree, careful=careful, start=start) for start in ("r", "a")]
                    self.assertEqual(told, [4999, dear])
                    self.assertEqual([cheapest_price(book, tree, start=start) for start in ("r", "a")], [4999, dear])
                    self.assertEqual((excess(book, tree, careful=careful), stuck_at(book, tree)), (0, None))
                    self.assertEqual(len(cheapest(book, tree)), 5000)
        self.assertLessEqual(len(alike_of(book, False)._groups), MAX_GROUPS + 5000)
        pump = Pump(book, ("s",) * 4000 + ("_",), ("s",) + ("t",) * 3999 + ("_",), ("s",) * 4000 + ("c",))
        self.assertEqual((pump.greedy_price(3), pump.cheapest_price(3), pump.rate), (20000, 20000, (0, 1)))

    def test_errors_stay(self):
        for _ in range(2):
            self.assert_refused(UnknownName, "x", excess, STEPS, ("c",), start="x")
            self.assert_refused(UnknownName, "x", cheapest_price, STEPS, ("c",), start="x")
            self.assert_refused(InvalidOperation, None, greedy_price, STEPS, ("c",), careful=1, start="x")
            self.assert_refused(Stuck, 0, greedy, RING, ("c",))
            self.assertEqual((excess(STEPS, ("c",)), excess(RING, ("c",)), cheapest_price(RING, ("c",))), (0, None, 1))


class PumpTest(RefusedTest):
    def test_pumps_of_books_that_were_just_made(self):
        for book in SAMPLES:
            for cut in small_cuts(book, many=12):
                for careful in MODES:
                    right = is_pump(again(book), *cut, careful=careful)
                    self.assertIs(is_pump(book, *cut, careful=careful), right)
                    if right:
                        pump, other = Pump(book, *cut, careful=careful), Pump(again(book), *cut, careful=careful)
                        self.assertEqual((pump == other, pump.side, pump.rate), (True, other.side, other.rate))
                        self.assertEqual(pump.loop_prices, other.loop_prices)
                        for times in (0, 1, 2, 5):
                            tree = book.operators.filled(cut[0], *[cut[1]] * times, cut[2])
                            self.assertEqual(pump.tree(times), tree)
                            told = [pump.greedy_price(times), pump.cheapest_price(times), pump.excess(times)]
                            self.assertEqual(told, [greedy_price(book, tree, careful=careful), cheapest_price(book, tree),
                                                    excess(book, tree, careful=careful)])

    def test_papers_and_ratios(self):
        for book in (*SAMPLES, FREE):
            for careful in MODES:
                for _ in range(2):
                    told = paper(book, careful=careful)
                    self.assertEqual((told, ratio(book, careful=careful)),
                                     (paper(again(book), careful=careful), ratio(again(book), careful=careful)))
                    self.assertIs(is_paper(again(book), told, careful=careful), True)


if __name__ == "__main__":
    unittest.main()
