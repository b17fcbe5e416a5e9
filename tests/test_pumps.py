"""Stage 11: pumps, and loops in trees (0.2, 0.4, 0.5, 0.17, 0.18, 11.1, 11.2)."""

import unittest
from math import gcd
from random import Random

from munchbehind.base.books import Book
from munchbehind.cover.covers import cheapest_price, cover_price, is_cover
from munchbehind.cover.greedy import excess, greedy_price, stuck_at
from munchbehind.decide.pairs import Pairs
from munchbehind.decide.pumps import Pump, cut_loop, is_pump, loops_in
from munchbehind.errors import (
    InvalidBook, InvalidCover, InvalidNumber, InvalidOperation, InvalidTree, Stuck, TooMany,
)
from tests.oracles import ADDS, EXAMPLES, LOADS, ONE_MORE, RING, SIXTY_ONE, STEPS, Truth, made_trees, random_book
from tests.refused import RefusedTest, wrong_values
from tests.values import everything, is_plain_integer, others

MODES = (False, True)
SIX = ("s",) * 6 + ("c",)
THREE = ("p", "v", "c")
ADD = ("p", "_", "c")
HOLE = ("_",)
FREE = Book.from_lines("op c 0", "op s 1", "goal r", "rule r 1 s s r", "rule r 0 s r", "rule r 0 c")
# Even rows are cheap from b, odd ones are not, and the greedy selector never comes to b.
EVEN = Book.from_lines(
    "op c 0", "op s 1", "goal g", "rule g 0 r", "rule g 0 b", "rule r 1 s r", "rule b 0 s s b", "rule b 9 s b",
    "rule r 0 c", "rule b 0 c",
)
# Two ways round, by twos and by threes, and a dear greedy one.
ROUND = Book.from_lines(
    "op c 0", "op s 1", "goal r", "rule r 3 s r", "rule r 3 s s a", "rule a 2 s r", "rule r 0 b", "rule b 1 s s b",
    "rule a 0 c", "rule b 1 c", "rule r 0 c",
)
SAMPLES = (*EXAMPLES, FREE, ROUND, EVEN, *[random_book(seed, 8, 5, 3) for seed in range(40)])
LOADED = Pump(ADDS, HOLE, ADD, THREE)


def cuts(book, tree):
    """All ways to cut a tree at two places, one above the other or the same one."""
    ops = book.operators
    for above in range(len(tree)):
        outer, rest = ops.cut(tree, above)
        for low in range(len(rest)):
            loop, inner = ops.cut(rest, low)
            yield outer, loop, inner, above, above + low


def some_cuts(book, places=6, most=200, many=60):
    """Some of the ways to cut small trees, always the same ones."""
    found = [cut for tree in made_trees(book, places)[:most] for cut in cuts(book, tree)]
    return Random(7).sample(found, min(many, len(found)))


def is_right(truth, outer, loop, inner, above, low, careful):
    """Whether they are a pump, by the words of the document."""
    ops = truth.book.operators
    lower = ops.filled(loop, inner)
    if truth.kind(lower) != truth.kind(inner):
        return False
    steps = truth.walk(ops.filled(outer, loop, inner), truth.book.goal, careful)
    if any(rules is None for _, _, rules in steps):
        return False
    sides = {at: side for at, side, _ in steps}
    return sides[above] == sides[low]


class IsPumpTest(RefusedTest):
    def test_small_trees(self):
        many = 0
        for book in SAMPLES:
            truth = Truth(book)
            for cut in some_cuts(book):
                for careful in MODES:
                    right = is_right(truth, *cut, careful)
                    self.assertIs(is_pump(book, *cut[:3], careful=careful), right)
                    if right:
                        many += 1
                    else:
                        self.assert_refused(InvalidOperation, None, Pump, book, *cut[:3], careful=careful)
        self.assertGreater(many, 500)

    def test_examples(self):
        self.assertIs(is_pump(STEPS, HOLE, ("s", "_"), SIX), False)
        self.assertIs(is_pump(ADDS, HOLE, ADD, THREE), True)
        self.assertIs(is_pump(ADDS, HOLE, ADD, ("v",)), False)

    def test_holes_alone(self):
        for book in (STEPS, ADDS, ROUND):
            for tree in made_trees(book, 4):
                self.assertIs(is_pump(book, HOLE, HOLE, tree), stuck_at(book, tree) is None)
        self.assertIs(is_pump(LOADS, HOLE, HOLE, ("s", "v")), False)
        self.assertIs(is_pump(LOADS, HOLE, HOLE, ("s", "v"), careful=True), True)

    def test_kinds_of_which_the_same_parts_are_ready(self):
        # Nothing is covered from a, so the first rule matches, but is never ready.
        book = Book.from_lines("op c 0", "op s 1", "goal r", "rule r 2 s s a", "rule r 1 s r", "rule r 0 c")
        self.assertIs(is_pump(book, HOLE, ("s", "_"), ("s", "c"), careful=True), False)
        self.assertIs(is_pump(book, HOLE, ("s", "_"), ("s", "s", "c"), careful=True), True)

    def test_kinds_of_which_the_same_parts_match(self):
        book = Book.from_lines("op c 0", "op v 0", "op s 1", "goal r", "rule r 1 s r", "rule r 0 c", "rule a 0 s s a",
                               "rule a 0 c", "rule r 0 v")
        self.assertIs(is_pump(book, HOLE, ("s", "_"), ("s", "s", "s", "c")), False)
        self.assertIs(is_pump(book, HOLE, ("s", "s", "_"), ("s", "s", "s", "c")), True)
        self.assertIs(is_pump(book, HOLE, ("s", "_"), ("s", "s", "s", "v")), True)

    def test_errors_in_their_order(self):
        contexts = wrong_values(InvalidTree, ("c",), None, ["_"], ("_", "_"), ())
        slots = [
            (STEPS, wrong_values(InvalidBook, None, STEPS.lines)), (HOLE, contexts), (("s",) * 4 + HOLE, contexts),
            (SIX, wrong_values(InvalidTree, HOLE, None, list(SIX), ("s",))),
            (True, wrong_values(InvalidOperation, 0, 1, None, "True")),
        ]
        call = lambda book, outer, loop, inner, careful: is_pump(book, outer, loop, inner, careful=careful)
        self.assert_order(call, *slots)
        call = lambda book, outer, loop, inner, careful: Pump(book, outer, loop, inner, careful=careful)
        self.assert_order(call, *slots)
        self.assert_refused(InvalidOperation, None, Pump, STEPS, HOLE, ("s", "_"), SIX)

    def test_other_values(self):
        for function in (is_pump, Pump):
            for value in others(lambda value: isinstance(value, Book)):
                self.assert_refused(InvalidBook, None, function, value, HOLE, HOLE, ("c",))
            for value in others(lambda value: value == HOLE):
                self.assert_refused(InvalidTree, None, function, STEPS, value, HOLE, ("c",))
                self.assert_refused(InvalidTree, None, function, STEPS, HOLE, value, ("c",))
            for value in others(lambda value: value == ("c",)):
                self.assert_refused(InvalidTree, None, function, STEPS, HOLE, HOLE, value)
            for value in others(lambda value: value is True or value is False):
                self.assert_refused(InvalidOperation, None, function, STEPS, HOLE, HOLE, ("c",), careful=value)

    def test_there_is_no_limit_of_kinds_and_states(self):
        self.assertIs(is_pump(ONE_MORE, HOLE, HOLE, SIX), True)
        self.assertIs(is_pump(SIXTY_ONE, HOLE, HOLE, ("c",)), True)
        self.assertEqual(Pump(SIXTY_ONE, HOLE, HOLE, ("c",)).rate, (0, 1))

    def test_more_than_five_thousand_places_together(self):
        outer, loop, inner = ("s",) * 4996 + HOLE, ("s",) * 4996 + HOLE, ("s",) * 4999 + ("c",)
        self.assertIs(is_pump(STEPS, outer, loop[1:], inner), False)
        pump = Pump(STEPS, outer, loop, inner)
        self.assertEqual((pump.greedy_price(0), pump.greedy_price(2)), (1249 + 1250, 1249 * 3 + 1250))
        self.assertEqual((pump.excess(0), pump.excess(10 ** 18), pump.rate), (0, 0, (0, 1)))
        self.assert_refused(TooMany, 5000, pump.tree, 0)


class PumpTest(RefusedTest):
    def pumps(self, most=25):
        for book in SAMPLES:
            truth = Truth(book)
            for careful in MODES:
                told = [cut for cut in some_cuts(book) if is_right(truth, *cut, careful)]
                for cut in told[:most]:
                    yield book, truth, careful, cut, Pump(book, *cut[:3], careful=careful)

    def test_examples(self):
        pump = LOADED
        self.assertEqual((pump.tree(1), pump.excess(0)), (("p", "p", "v", "c", "c"), 2))
        self.assertEqual((pump.excess(10 ** 6), pump.rate, pump.loop_prices), (2000002, (2, 1), ((("r",), 3, 1),)))
        self.assertEqual((pump.first_times(5), str(pump)), (2, "pump of 1, 3 and 3 places"))
        four = Pump(STEPS, HOLE, ("s",) * 4 + HOLE, SIX)
        self.assertEqual((four.side, four.greedy_price(2), four.excess(10 ** 18), four.rate), (("r",), 5, 1, (0, 1)))

    def test_properties(self):
        for book, truth, careful, (outer, loop, inner, above, _), pump in self.pumps():
            self.assertEqual((pump.book, pump.outer, pump.loop, pump.inner), (book, outer, loop, inner))
            self.assertIs(pump.is_careful, careful)
            steps = truth.walk(book.operators.filled(outer, loop, inner), book.goal, careful)
            self.assertEqual(pump.side, dict((at, side) for at, side, _ in steps)[above])
            self.assertEqual(str(pump), f"pump of {len(outer)}, {len(loop)} and {len(inner)} places")
        self.assertIs(LOADED.is_careful, False)

    def test_few_times(self):
        for book, _, careful, (outer, loop, inner, *_), pump in self.pumps():
            for times in (0, 1, 2, 3, 7):
                tree = pump.tree(times)
                self.assertEqual(tree, book.operators.filled(outer, *[loop] * times, inner))
                self.assertEqual(pump.greedy_price(times), greedy_price(book, tree, careful=careful))
                self.assertEqual(pump.cheapest_price(times), cheapest_price(book, tree))
                self.assertEqual(pump.excess(times), excess(book, tree, careful=careful))

    def test_loop_prices(self):
        for book, truth, careful, (outer, loop, inner, above, low), pump in self.pumps(8):
            tree = book.operators.filled(outer, loop, inner)
            places = [*range(above, low), *range(low + len(inner), above + len(loop) - 1 + len(inner))]
            covers = truth.covers(tree, book.goal)
            if len(covers) > 500:
                continue
            mine = truth.sides(tree, truth.greedy(tree, book.goal, careful)[0], book.goal)[1]
            least = {}
            for cover in covers:
                sides, prices = truth.sides(tree, cover, book.goal)
                if sides[above] == sides[low]:
                    price = sum(prices[at] for at in places)
                    least[sides[above]] = min(price, least.get(sides[above], price))
            price = sum(mine[at] for at in places)
            self.assertEqual(pump.loop_prices, tuple((side, price, least[side]) for side in sorted(least)))

    def test_rates(self):
        great = set()
        for book, _, careful, cut, pump in self.pumps():
            above, below = pump.rate
            self.assertEqual((gcd(above, below), type(pump.rate)), (1, tuple))
            step = 2520 * below
            for times in (10 ** 5, 10 ** 18 - step):
                grown = pump.excess(times + step) - pump.excess(times)
                self.assertEqual(grown * below, step * above)
            great.add(pump.rate)
        self.assertGreater(len(great), 6)

    def test_first_times(self):
        for _, _, _, _, pump in self.pumps(10):
            if pump.rate[0] == 0:
                self.assert_refused(InvalidOperation, None, pump.first_times, 0)
                self.assert_refused(InvalidOperation, None, pump.first_times, 1000)
                continue
            times = 0
            for number in (0, 1, 2, 3, 5, 8, 13, 40):
                while pump.excess(times) < number:
                    times += 1
                self.assertEqual(pump.first_times(number), times)
            late = pump.first_times(1000)
            self.assertGreaterEqual(pump.excess(late), 1000)
            self.assertTrue(all(pump.excess(late - less) < 1000 for less in range(1, min(late, 40) + 1)))

    def test_excesses_that_rise_and_fall(self):
        pump = Pump(EVEN, ("s", "_"), ("s", "_"), ("s", "s", "c"))
        told = [pump.excess(times) for times in range(60)]
        self.assertEqual(told[:12], [0, 4, 0, 6, 0, 8, 0, 10, 2, 12, 4, 14])
        self.assertEqual(told, [excess(EVEN, ("s",) * (3 + times) + ("c",)) for times in range(60)])
        self.assertEqual((pump.rate, pump.excess(10 ** 18)), ((1, 1), 10 ** 18 + 3 - 9))
        for number in range(max(told)):
            self.assertEqual(pump.first_times(number), min(times for times, many in enumerate(told) if many >= number))
        self.assertEqual(pump.first_times(1000), 997)

    def test_no_cheap_side_can_be_stayed_at(self):
        # The cheap rounds lead from b to d and back, and staying at either is dear.
        book = Book.from_lines(
            "op c 0", "op s 1", "goal g", "rule g 0 r", "rule g 0 b", "rule r 1 s r", "rule b 0 s d", "rule d 0 s b",
            "rule b 9 s b", "rule d 9 s d", "rule r 0 c", "rule b 0 c",
        )
        pump = Pump(book, ("s", "_"), ("s", "_"), ("s", "s", "c"))
        told = [pump.excess(times) for times in range(60)]
        self.assertEqual(told, [excess(book, ("s",) * (3 + times) + ("c",)) for times in range(60)])
        for number in range(max(told)):
            self.assertEqual(pump.first_times(number), min(times for times, many in enumerate(told) if many >= number))
        self.assertEqual(pump.first_times(1000), 997)

    def test_numbers_in_between(self):
        # The loop is as long as half of a cheap round.
        book = Book.from_lines("op c 0", "op s 1", "goal r", "rule r 2 s r", "rule r 1 s s s r", "rule r 0 c")
        pump = Pump(book, HOLE, ("s", "_"), ("s",) * 3 + ("c",))
        self.assertEqual(pump.rate, (5, 3))
        told = [pump.excess(times) for times in range(30)]
        self.assertEqual(told, [excess(book, ("s",) * (3 + times) + ("c",)) for times in range(30)])
        for number in range(40):
            first = min(times for times in range(60) if pump.excess(times) >= number)
            self.assertEqual(pump.first_times(number), first)

    def test_ten_to_the_eighteenth_times(self):
        many = 10 ** 18
        self.assertEqual((LOADED.greedy_price(many), LOADED.cheapest_price(many)), (3 * many + 3, many + 1))
        self.assertEqual(LOADED.excess(many), 2 * many + 2)
        three = Pump(STEPS, HOLE, ("s",) * 12 + HOLE, SIX)
        self.assertEqual([three.excess(times) for times in (0, 1, 10 ** 17, many)], [1, 1, 1, 1])
        self.assertEqual(Pump(FREE, HOLE, ("s", "s", "_"), ("s", "s", "c")).excess(many), many + 1)

    def test_trees_of_five_thousand_places(self):
        self.assertEqual(len(LOADED.tree(2498)), 4999)
        self.assert_refused(TooMany, 5000, LOADED.tree, 2499)
        self.assert_refused(TooMany, 5000, LOADED.tree, 10 ** 18)
        pump = Pump(FREE, HOLE, ("s", "s", "_"), ("s", "s", "s", "c"))
        self.assertEqual(pump.tree(2498), ("s",) * 4999 + ("c",))
        self.assert_refused(TooMany, 5000, pump.tree, 2499)
        for times in (4998, 2499):
            self.assertEqual(pump.excess(times), pump.greedy_price(times) - pump.cheapest_price(times))

    def test_holes_alone(self):
        pump = Pump(ADDS, HOLE, HOLE, THREE)
        for times in (0, 1, 10 ** 18):
            told = (pump.tree(times), pump.greedy_price(times), pump.cheapest_price(times), pump.excess(times))
            self.assertEqual(told, (THREE, 3, 1, 2))
        self.assertEqual((pump.rate, pump.loop_prices), ((0, 1), ((("r",), 0, 0),)))
        self.assertEqual(str(pump), "pump of 1, 1 and 3 places")
        pump = Pump(ADDS, ("p", "v", "_"), HOLE, ("c",))
        self.assertEqual((pump.side, pump.loop_prices), (("c",), ((("c",), 0, 0), (("r",), 0, 0))))

    def test_long_loops(self):
        outer, loop = ("p",) * 800 + HOLE + ("c",) * 800, ("p",) * 700 + HOLE + ("c",) * 700
        pump = Pump(ADDS, outer, loop, THREE)
        self.assertEqual((pump.rate, pump.excess(1), pump.excess(10 ** 18)), ((1400, 1), 3002, 1602 + 1400 * 10 ** 18))
        self.assertEqual((len(pump.tree(2)), pump.excess(2)), (1601 + 2800 + 2, excess(ADDS, pump.tree(2))))
        row = Pump(STEPS, ("s",) * 1200 + HOLE, ("s",) * 1200 + HOLE, ("s",) * 1202 + ("c",))
        self.assertEqual((row.excess(0), row.excess(2), row.rate), (excess(STEPS, row.tree(0)), 1, (0, 1)))

    def test_times_and_numbers(self):
        for value in others(lambda value: is_plain_integer(value) and 0 <= value <= 10 ** 18):
            for method in (LOADED.tree, LOADED.greedy_price, LOADED.cheapest_price, LOADED.excess):
                self.assert_refused(InvalidNumber, value, method, value)
        for method in (LOADED.tree, LOADED.greedy_price, LOADED.cheapest_price, LOADED.excess):
            for value in (10 ** 18 + 1, -1, True, False):
                self.assert_refused(InvalidNumber, value, method, value)
        still = Pump(STEPS, HOLE, HOLE, SIX)
        for value in (*others(lambda value: is_plain_integer(value) and 0 <= value <= 1000), 1001, True):
            self.assert_refused(InvalidNumber, value, LOADED.first_times, value)
            self.assert_refused(InvalidNumber, value, still.first_times, value)
        self.assertEqual((LOADED.first_times(0), LOADED.first_times(2), LOADED.first_times(3)), (0, 0, 1))
        self.assertEqual(LOADED.first_times(1000), 499)

    def test_equal_pumps(self):
        same = Pump(Book.from_lines(*ADDS.lines), HOLE, ADD, THREE, careful=False)
        self.assertEqual((LOADED == same, LOADED != same), (True, False))
        other = [
            Pump(ADDS, HOLE, ADD, THREE, careful=True), Pump(ADDS, ADD, ADD, THREE), Pump(ADDS, HOLE, HOLE, THREE),
            Pump(ADDS, HOLE, ADD, ("p", "c", "c")), Pump(ADDS.with_price(0, 4), HOLE, ADD, THREE),
        ]
        for value in (*other, *everything(), ADDS, LOADED.tree(0)):
            self.assertIs(LOADED == value, False)
            self.assertIs(LOADED != value, True)
        with self.assertRaises(TypeError):
            iter(LOADED)

    def test_equal_calls_return_equal_results(self):
        pump = Pump(EVEN, ("s", "_"), ("s", "_"), ("s", "s", "c"))
        told = [
            [function(times) for function in (pump.excess, pump.cheapest_price, pump.first_times, pump.tree)]
            for times in (5, 900, 5, 1000, 5)
        ]
        self.assertEqual((told[0], told[2]), (told[2], told[4]))

    def test_prices_times_a_number(self):
        double = Pump(ADDS.scaled(3), HOLE, ADD, THREE)
        self.assertEqual((double.rate, double.excess(7)), ((6, 1), 3 * LOADED.excess(7)))

    def test_the_excess_of_a_subtree_may_be_greater(self):
        book = Book.from_lines("op c 0", "op s 1", "op t 1", "goal r", "rule r 0 t s c", "rule r 0 t r", "rule r 5 s r",
                               "rule r 0 s c", "rule r 0 c")
        self.assertEqual((excess(book, ("s", "c")), excess(book, ("t", "s", "c"))), (5, 0))


class LoopsTest(RefusedTest):
    def test_examples(self):
        tree = ("p", "p", "p", "v", "c", "c", "c")
        self.assertEqual(loops_in(ADDS, tree, (1, 1, 1, 3, 2, 2, 2)), ((0, 1), (0, 2), (1, 2)))
        self.assertEqual(cut_loop(ADDS, LOADED.tree(1), (1, 1, 3, 2, 2), (0, 1)), (THREE, (1, 3, 2)))

    def test_small_trees(self):
        for book in SAMPLES[:26]:
            truth = Truth(book)
            for careful in MODES:
                pairs = Pairs(book, careful=careful)
                for tree in made_trees(book, 6)[:200:3]:
                    if truth.greedy(tree, book.goal, careful)[0] is not None:
                        for cover in truth.covers(tree, book.goal)[:3]:
                            self.check(book, truth, careful, tree, cover, pairs.along(tree, cover))

    def check(self, book, truth, careful, tree, cover, states):
        ops = book.operators
        right = [
            (above, low) for above in range(len(tree)) for low in range(above + 1, ops.end(tree, above))
            if states[above] == states[low]
        ]
        self.assertEqual(loops_in(book, tree, cover, careful=careful), tuple(right))
        sides, prices = truth.sides(tree, cover, book.goal)
        for above, low in right:
            told, rest = cut_loop(book, tree, cover, (above, low), careful=careful)
            self.assertEqual(told, ops.replaced(tree, above, ops.subtree(tree, low)))
            self.assertIs(is_cover(book, told, rest), True)
            kept = [*range(above), *range(low, ops.end(tree, low)), *range(ops.end(tree, above), len(tree))]
            right_ones = (tuple(sides[at] for at in kept), tuple(prices[at] for at in kept))
            self.assertEqual(truth.sides(told, rest, book.goal), right_ones)
            self.assertLess(len(told), len(tree))

    def test_rules_behind_the_loop_are_kept(self):
        tree, cover = ("p", "p", "p", "v", "c", "c", "c"), (1, 1, 1, 3, 2, 2, 2)
        right = (("p", "p", "v", "c", "c"), (1, 1, 3, 2, 2))
        for pair in ((0, 1), (1, 2)):
            self.assertEqual(cut_loop(ADDS, tree, cover, pair), right)
        self.assertEqual(cut_loop(ADDS, tree, cover, (0, 2)), (THREE, (1, 3, 2)))
        tree, cover = ("p", "p", "p", "v", "c", "c", "p", "v", "c"), (1, 1, 1, 3, 2, 2, 0, 3)
        self.assertEqual(cut_loop(ADDS, tree, cover, (1, 2)), (("p", "p", "v", "c", "p", "v", "c"), (1, 1, 3, 2, 0, 3)))

    def test_states_one_after_the_other(self):
        tree = ("s",) * 9 + ("c",)
        for cover in ((0, 0, 0, 0, 1, 2), (1,) * 9 + (2,), (1, 0, 0, 0, 0, 2), (1, 0, 1, 0, 1, 0, 2)):
            states = Pairs(FREE).along(tree, cover)
            right = [(one, low) for one in range(10) for low in range(one + 1, 10) if states[one] == states[low]]
            self.assertEqual(loops_in(FREE, tree, cover), tuple(right))
            self.assertGreater(len(right), 3)

    def test_bounded_excesses_do_not_shrink(self):
        # Cutting a loop makes the difference no less where the excess is bounded.
        for many in range(1, 22):
            tree = ("s",) * many + ("c",)
            cover = max([(2,) * many + (3,), (1,) * (many // 3) + (2,) * (many % 3) + (3,)])
            for pair in loops_in(STEPS, tree, cover):
                told, rest = cut_loop(STEPS, tree, cover, pair)
                before = greedy_price(STEPS, tree) - cover_price(STEPS, tree, cover)
                self.assertGreaterEqual(greedy_price(STEPS, told) - cover_price(STEPS, told, rest), before)

    def test_long_trees(self):
        tree, cover = ("p",) * 60 + ("v",) + ("c",) * 60, (1,) * 60 + (3,) + (2,) * 60
        self.assertEqual(len(loops_in(ADDS, tree, cover)), 60 * 59 // 2)
        told, rest = cut_loop(ADDS, tree, cover, (0, 59))
        self.assertEqual((told, rest), (("p", "v", "c"), (1, 3, 2)))
        tree = ("s",) * 4999 + ("c",)
        told, rest = cut_loop(STEPS, tree, (2,) * 4999 + (3,), (0, 4992))
        self.assertEqual((told, rest), (("s",) * 7 + ("c",), (2,) * 7 + (3,)))

    def test_places_side_by_side(self):
        book = Book.from_lines("op c 0", "op p 2", "goal r", "rule r 1 p r r", "rule r 0 c")
        tree, cover = ("p", "p", "c", "c", "p", "c", "c"), (0, 0, 1, 1, 0, 1, 1)
        self.assertEqual(loops_in(book, tree, cover), ((0, 1), (0, 4)))
        for pair in ((1, 4), (2, 3), (1, 0), (0, 0), (1, 2), (4, 0), (0, 7), (7, 8)):
            self.assert_refused(InvalidOperation, None, cut_loop, book, tree, cover, pair)
        self.assertEqual(cut_loop(book, tree, cover, (0, 4)), (("p", "c", "c"), (0, 1, 1)))

    def test_no_pairs(self):
        tree, cover = ("p", "p", "v", "c", "c"), (1, 1, 3, 2, 2)
        odd = [(0, True), (False, 1), [0, 1], (0,), (0, 1, 2), "01", (0, "1"), ((0, 1),), (0, 10 ** 60), (-5, 1),
               (0, -4)]
        for pair in (*odd, *others(lambda value: value == (0, 1) and value[1] is not True)):
            with self.subTest(pair=pair):
                self.assert_refused(InvalidOperation, None, cut_loop, ADDS, tree, cover, pair)

    def test_errors_in_their_order(self):
        tree, cover = ("p", "p", "v", "c", "c"), (1, 1, 3, 2, 2)
        slots = [
            (ADDS, wrong_values(InvalidBook, None, ADDS.lines)),
            (tree, wrong_values(InvalidTree, ("p",), None, list(tree))),
            (cover, wrong_values(InvalidCover, (1, 1), None, list(cover), (1, 1, 3, 2, True))),
            (False, wrong_values(InvalidOperation, 0, 1, None)),
        ]
        call = lambda book, told, rules, careful: loops_in(book, told, rules, careful=careful)
        self.assert_order(call, *slots)
        call = lambda book, told, rules, careful, pair: cut_loop(book, told, rules, pair, careful=careful)
        self.assert_order(call, *slots, ((0, 1), wrong_values(InvalidOperation, (1, 0), None, (0, True))))

    def test_limits_and_being_stuck_come_last(self):
        for careful in MODES:
            self.assert_refused(TooMany, 60, loops_in, SIXTY_ONE, ("c",), (10,), careful=careful)
            self.assert_refused(TooMany, 60, cut_loop, SIXTY_ONE, ("c",), (10,), None, careful=careful)
        self.assert_refused(TooMany, 600, loops_in, ONE_MORE, ("c",), (0,))
        self.assert_refused(TooMany, 600, cut_loop, ONE_MORE, ("c",), (0,), (0, 0))
        self.assert_refused(InvalidCover, None, loops_in, ONE_MORE, ("c",), (1,))
        self.assert_refused(InvalidOperation, None, loops_in, ONE_MORE, ("c",), (0,), careful=0)
        self.assert_refused(InvalidTree, None, loops_in, SIXTY_ONE, ("p",), (0,))
        self.assert_refused(Stuck, 1, loops_in, LOADS, ("s", "v"), (1, 2))
        self.assert_refused(Stuck, 1, cut_loop, LOADS, ("s", "v"), (1, 2), None)
        self.assert_refused(InvalidOperation, None, cut_loop, LOADS, ("s", "v"), (1, 2), None, careful=True)
        self.assert_refused(Stuck, 0, loops_in, RING, ("c",), (1,))
        for value in others(lambda value: isinstance(value, Book)):
            self.assert_refused(InvalidBook, None, loops_in, value, ("c",), ())
            self.assert_refused(InvalidBook, None, cut_loop, value, ("c",), (), ())
        for value in others(lambda value: value is True or value is False):
            self.assert_refused(InvalidOperation, None, loops_in, STEPS, ("c",), (3,), careful=value)
            self.assert_refused(InvalidOperation, None, cut_loop, STEPS, ("c",), (3,), None, careful=value)


if __name__ == "__main__":
    unittest.main()
