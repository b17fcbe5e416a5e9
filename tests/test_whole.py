"""How papers, orders, benches and shells go together (0.2, 0.15 to 0.18)."""

import unittest
from random import Random

from munchbehind.base.books import Book
from munchbehind.cover.greedy import excess
from munchbehind.decide.orders import best_orders, count_orders, each_order, lead, verdict
from munchbehind.decide.pairs import Pairs
from munchbehind.decide.papers import bounds, greatest_excess, is_bounded, is_paper, paper, worst_tree
from munchbehind.decide.ratios import ratio, ratio_paper
from munchbehind.decide.sizes import excess_counts, greatest_by_sizes, least_behind
from munchbehind.decide.stuck import is_never_stuck, met_states, stuck_paper, stuck_tree
from munchbehind.text.shell import Shell
from munchbehind.text.texts import read_book, read_paper, write_book, write_paper
from munchbehind.use.bench import Bench
from tests.deciding import MODES, SAMPLES, SIX
from tests.oracles import ADDS, LOADS, STEPS
from tests.refused import RefusedTest

ASKED = ("behind", "ratio", "stuck", "worst", "paper", "sizes 9", "least 1", "orders", "greedy c", "covers c")


def all_told(book, careful):
    """What is told of a book, but for the names in it."""
    tree = stuck_tree(book, careful=careful)
    bounded = is_bounded(book, careful=careful)
    worst = worst_tree(book, careful=careful) if bounded else None
    return (
        is_never_stuck(book, careful=careful), None if tree is None else len(tree), bounded,
        greatest_excess(book, careful=careful), ratio(book, careful=careful), None if worst is None else len(worst),
        paper(book, careful=careful)[0], ratio_paper(book, careful=careful)[0], len(Pairs(book, careful=careful)),
        len(met_states(book, careful=careful)), greatest_by_sizes(book, 12, careful=careful),
        stuck_paper(book, careful=careful)[0],
    )


class TogetherTest(RefusedTest):
    def test_other_names(self):
        for book in SAMPLES:
            own = (*book.operators.names, *book.nonterminals)
            # The same order of names, and the other way round.
            for names in ({word: word + "z" for word in own},
                          dict(zip(sorted(own), ["abcdefghijklmnopqrstuvw"[-at] for at in range(1, len(own) + 1)]))):
                other = book.renamed(names)
                for careful in MODES:
                    self.assertEqual(all_told(other, careful), all_told(book, careful))
                    if count_orders(book) <= 150:
                        self.assertEqual(best_orders(other, careful=careful), best_orders(book, careful=careful))

    def test_orders_between_different_nonterminals(self):
        rng = Random(9)
        for book in SAMPLES:
            rows = {word: list(book.rules_of(word)) for word in book.nonterminals}
            names = [rule[0] for rule in book.rules]
            rng.shuffle(names)
            other = book.ordered(tuple(rows[name].pop(0) for name in names))
            for careful in MODES:
                self.assertEqual(all_told(other, careful), all_told(book, careful))

    def test_rules_that_are_not_reached(self):
        # They come to no place of a tree that is covered from the goal, but their parts are in kinds.
        for book in SAMPLES:
            if len(book) > 10 or len(book.nonterminals) > 5:
                continue
            more = book.with_rule(("z", 9, (book.operators.names[0],) + (book.goal,) * book.operators.arities[
                book.operators.names[0]]), at=0)
            for careful in MODES:
                for function in (is_never_stuck, greatest_excess, ratio):
                    self.assertEqual(function(more, careful=careful), function(book, careful=careful))
                self.assertEqual(greatest_by_sizes(more, 9, careful=careful), greatest_by_sizes(book, 9, careful=careful))

    def test_prices_times_a_number(self):
        for book in SAMPLES:
            most = max([rule[1] for rule in book.rules], default=9)
            number = 9 // most if most else 2
            other = book.scaled(number)
            for careful in MODES:
                bench, double = Bench(book, careful=careful), Bench(other, careful=careful)
                self.assertEqual(double.last, None if bench.last is None else bench.last * number)
                if bench.last is not None:
                    self.assertEqual(double.demand(("within", bench.last * number)), ())
                told = greatest_by_sizes(book, 9, careful=careful)
                right = tuple(None if most is None else most * number for most in told)
                self.assertEqual(greatest_by_sizes(other, 9, careful=careful), right)
                self.assertEqual(
                    {behind * number: many for behind, many in excess_counts(book, 3, careful=careful).items()},
                    excess_counts(other, 3, careful=careful),
                )

    def test_verdicts_and_leads(self):
        for book in SAMPLES:
            if count_orders(book) > 60:
                continue
            own = tuple(range(len(book)))
            for careful in MODES:
                for order in list(each_order(book))[:12]:
                    bench = Bench(book.ordered(order), careful=careful)
                    told = verdict(book, order, careful=careful)
                    self.assertEqual(told, (is_never_stuck(bench.book, careful=careful), bench.last))
                    # What one order leads by is at most what it is behind the cheapest covers.
                    if told[1] is not None:
                        self.assertLessEqual(lead(book, order, own, careful=careful), told[1])

    def test_benches_and_shells(self):
        for book in SAMPLES:
            for careful in MODES:
                shell = Shell(write_book(book), careful=careful)
                self.assertEqual((shell.bench() == Bench(book, careful=careful)), True)
                before = [shell(line) for line in ASKED]
                if len(book):
                    shell("move 0 0")
                    shell("erase 0")
                    shell("undo")
                    shell("redo")
                    self.assertEqual(shell.bench().book, book.without_rule(0))
                    shell("undo")
                    shell("undo")
                self.assertEqual([shell(line) for line in ASKED], before)

    def test_papers_as_texts(self):
        for book in SAMPLES:
            for careful in MODES:
                again = read_book(write_book(book))
                told = read_paper(write_paper(paper(book, careful=careful)))
                self.assertIs(is_paper(again, told, careful=careful), True)
                if told[0] == "within":
                    worse = ("within", told[1], {state: bound - 1 for state, bound in told[2].items()})
                    self.assertIs(is_paper(again, worse, careful=careful), not worse[2])


class AgainTest(RefusedTest):
    """The same questions, asked more than once of one book and of equal books that were made anew."""

    def test_mixed_questions(self):
        rng = Random(12)
        calls = [
            lambda book, careful: met_states(book, careful=careful),
            lambda book, careful: stuck_tree(book, careful=careful),
            lambda book, careful: stuck_paper(book, careful=careful),
            lambda book, careful: Pairs(book, careful=careful).states,
            lambda book, careful: paper(book, careful=careful)[0],
            lambda book, careful: greatest_excess(book, careful=careful),
            lambda book, careful: ratio(book, careful=careful),
            lambda book, careful: greatest_by_sizes(book, 7, careful=careful),
            lambda book, careful: excess(book, ("c",) if "c" in book.operators.constants else ("x",), careful=careful)
            if "c" in book.operators.constants else None,
        ]
        for book in SAMPLES:
            asked = [(call, careful) for call in calls for careful in MODES] * 2
            rng.shuffle(asked)
            for call, careful in asked:
                self.assertEqual(call(book, careful), call(Book.from_lines(*book.lines), careful))

    def test_what_is_returned_may_be_changed(self):
        for _ in range(2):
            limits = bounds(STEPS)
            limits.clear()
            counts = excess_counts(ADDS, 3)
            counts[0] = 99
            paper(STEPS)[2].clear()
        self.assertEqual((len(bounds(STEPS)) > 9, excess_counts(ADDS, 3)), (True, {0: 2, 2: 2}))
        self.assertEqual((worst_tree(STEPS), least_behind(LOADS, 1), len(paper(STEPS)[2]) > 9), (SIX, None, True))


if __name__ == "__main__":
    unittest.main()
