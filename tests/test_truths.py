"""What is true of all books, and what is not (0.17, 0.18, 11.2)."""

import unittest

from munchbehind.base.books import Book
from munchbehind.cover.covers import cheapest_price
from munchbehind.cover.greedy import excess, greedy_price
from munchbehind.decide.papers import bounds, greatest_excess, is_bounded, is_paper, paper, worst_tree
from munchbehind.decide.pumps import Pump, is_pump
from munchbehind.decide.ratios import ratio
from munchbehind.decide.sizes import greatest_by_sizes
from munchbehind.decide.stuck import is_never_stuck, stuck_tree
from tests.deciding import FREE, MODES, SAMPLES, SIX, cuts, small_cuts
from tests.oracles import ADDS, LOADS, RING, STEPS, made_trees
from tests.refused import RefusedTest


class TrueTest(RefusedTest):
    def test_prices_times_a_number(self):
        for book in SAMPLES:
            most = max([rule[1] for rule in book.rules], default=9)
            for careful in MODES:
                told = greatest_excess(book, careful=careful)
                for number in range(1, 9 // most + 1 if most else 3):
                    other = book.scaled(number)
                    times = None if told is None else told * number
                    self.assertEqual(greatest_excess(other, careful=careful), times)
                    self.assertEqual(ratio(other, careful=careful), ratio(book, careful=careful))
                    self.assertEqual(stuck_tree(other, careful=careful), stuck_tree(book, careful=careful))
                    if told is not None:
                        limits = bounds(book, careful=careful)
                        right = {state: bound * number for state, bound in limits.items()}
                        self.assertEqual(bounds(other, careful=careful), right)
                        worst = worst_tree(other, careful=careful)
                        self.assertEqual(worst is None, worst_tree(book, careful=careful) is None)
                self.assertEqual(greatest_excess(book.scaled(0), careful=careful), 0)
        self.assertEqual((greatest_excess(STEPS.scaled(9)), worst_tree(STEPS.scaled(9))), (9, SIX))

    def test_orders_between_different_nonterminals(self):
        for book in SAMPLES:
            order = tuple(sorted(range(len(book)), key=lambda index: (book.rules[index][0], index)))
            back = tuple(sorted(range(len(book)), key=lambda index: (-ord(book.rules[index][0][0]), index)))
            for careful in MODES:
                told = [
                    (greatest_excess(one, careful=careful), ratio(one, careful=careful), paper(one, careful=careful)[0],
                     is_never_stuck(one, careful=careful), greatest_by_sizes(one, 9, careful=careful))
                    for one in (book, book.ordered(order), book.ordered(back))
                ]
                self.assertEqual((told[1], told[2]), (told[0], told[0]))

    def test_at_most_one_rule_that_matches(self):
        book = Book.from_lines("op c 0", "op v 0", "op p 2", "goal r", "rule r 3 p r a", "rule r 5 c", "rule r 1 v",
                               "rule a 7 p a r", "rule a 2 c")
        for careful in MODES:
            self.assertEqual((greatest_excess(book, careful=careful), ratio(book, careful=careful)), (0, (1, 1)))

    def test_bounded_excesses_and_ratios(self):
        told = set()
        for book in SAMPLES:
            for careful in MODES:
                bounded, fraction = is_bounded(book, careful=careful), ratio(book, careful=careful)
                told.add((bounded, fraction is None or fraction[0] - fraction[1]))
                if not bounded:
                    self.assertTrue(fraction is None or fraction[0] > fraction[1])
        self.assertIn((True, 0), told)
        self.assertIn((True, -1), told)
        self.assertIn((False, True), told)
        for book, careful in ((STEPS, False), (LOADS, True)):
            self.assertGreater(greedy_price(book, ("s",) * 4000 + ("v" if careful else "c",), careful=careful), 900)
            self.assertEqual((is_bounded(book, careful=careful), ratio(book, careful=careful)), (True, (1, 1)))

    def test_other_names(self):
        for book in SAMPLES:
            own = (*book.operators.names, *book.nonterminals)
            names = {word: "z" + word for word in own}
            other = book.renamed(names)
            for careful in MODES:
                self.assertEqual(greatest_excess(other, careful=careful), greatest_excess(book, careful=careful))
                self.assertEqual(ratio(other, careful=careful), ratio(book, careful=careful))
                for value in (paper(book, careful=careful),):
                    if value[0] == "behind":
                        told = [tuple("_" if word == "_" else names[word] for word in part) for part in value[1:]]
                        self.assertIs(is_paper(other, ("behind", *told), careful=careful), True)

    def test_pumps_have_rates_above_0_just_if_there_is_no_bound(self):
        above = 0
        for book in SAMPLES:
            for careful in MODES:
                bounded = is_bounded(book, careful=careful)
                found = [cut for cut in small_cuts(book, many=80) if is_pump(book, *cut, careful=careful)]
                if not bounded:
                    found.append(paper(book, careful=careful)[1:])
                rates = [Pump(book, *cut, careful=careful).rate[0] for cut in found]
                self.assertTrue(all(rate == 0 for rate in rates) if bounded else rates[-1] > 0)
                above += sum(rate > 0 for rate in rates)
        self.assertGreater(above, 40)

    def test_prices_of_loops_and_rates_go_together(self):
        for cut in cuts(FREE, ("s",) * 6 + ("c",)):
            if is_pump(FREE, *cut):
                fits = any(price > other for _, price, other in Pump(FREE, *cut).loop_prices)
                self.assertEqual(Pump(FREE, *cut).rate[0] > 0, fits)
                self.assertIs(is_paper(FREE, ("behind", *cut)), fits)


class NotTrueTest(RefusedTest):
    def test_a_careful_selector_may_be_stuck(self):
        self.assertEqual((stuck_tree(RING, careful=True), cheapest_price(RING, ("c",))), (("c",), 1))

    def test_equal_prices_and_larger_patterns_first(self):
        book = STEPS.with_price(3, 1)
        self.assertEqual((book.largest_first(), {rule[1] for rule in book.rules}), (book, {1}))
        self.assertEqual((greatest_excess(book), worst_tree(book)), (1, SIX))

    def test_small_trees_tell_nothing_of_great_ones(self):
        # The patterns have at most five levels.
        ops = STEPS.operators
        for tree in made_trees(STEPS, 6):
            self.assertEqual((excess(STEPS, tree), ops.levels(tree) <= 6), (0, True))
        self.assertEqual(greatest_excess(STEPS), 1)

    def test_the_excess_of_a_subtree_may_be_greater(self):
        book = Book.from_lines("op c 0", "op s 1", "op t 1", "goal r", "rule r 0 t s c", "rule r 0 t r", "rule r 5 s r",
                               "rule r 0 s c", "rule r 0 c")
        self.assertEqual((excess(book, ("s", "c")), excess(book, ("t", "s", "c"))), (5, 0))
        self.assertEqual(greatest_excess(book), 5)

    def test_rules_that_are_never_used(self):
        # The greedy selector never uses the second rule, but other covers do.
        book = Book.from_lines("op c 0", "op s 1", "goal r", "rule r 1 s r", "rule r 0 s s r", "rule r 0 c")
        self.assertEqual((greatest_excess(book), greatest_excess(book.without_rule(1))), (None, 0))
        self.assertEqual((excess(book, SIX), excess(book.without_rule(1), SIX)), (6, 0))

    def test_quotients_of_single_trees(self):
        self.assertEqual((greedy_price(STEPS, SIX), cheapest_price(STEPS, SIX), ratio(STEPS)), (3, 2, (1, 1)))
        tree = ("p", "v", "c")
        self.assertEqual((greedy_price(ADDS, tree), cheapest_price(ADDS, tree), ratio(ADDS)), (3, 1, (3, 1)))


if __name__ == "__main__":
    unittest.main()
