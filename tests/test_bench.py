"""Stage 14: a bench, its pledges and its changes (0.2, 0.4, 14.1, 14.2)."""

import unittest
from random import Random

from munchbehind.base.books import Book
from munchbehind.cover.covers import cheapest_price
from munchbehind.cover.greedy import greedy_price
from munchbehind.decide.papers import greatest_excess
from munchbehind.decide.ratios import ratio
from munchbehind.decide.stuck import is_never_stuck
from munchbehind.errors import (
    InvalidBook, InvalidNumber, InvalidOperation, NothingToUndo, ParseError, Refused, TooMany,
)
from munchbehind.use.bench import Bench
from tests.deciding import FREE, MODES, SAMPLES, SIX
from tests.oracles import ADDS, LOADS, ONE_MORE, RING, SIXTY_ONE, STEPS
from tests.refused import RefusedTest, wrong_values
from tests.values import everything, is_plain_integer, others

NEVER = ("never stuck",)
WITHIN = ("within", 1)
LINE = "rule r 1 s s r"
NO_LINES = ("op c 0", "goal r", "rule", "rule r 1", "rule r 10 c", "rule r 1  c", " rule r 1 c", "rule r 1 c ", "rule R 1 c",
            "rule r 01 c", "rule r 1 a a a a a a a a", "", "r 1 c", "rule r -1 c")
NO_PLEDGES = (
    (), ("never",), ("never stuck", 1), ["never stuck"], "never stuck", ("within",), ("within", -1), ("within", True),
    ("within", 1, 1), ("within", None), ("within", 10 ** 60), ["within", 1], ("ratio", 1), ("ratio", 1, 0),
    ("ratio", -1, 1), ("ratio", True, 1), ("ratio", 1, True), ("ratio", 1, 1, 1), ("ratio", None, 1),
    ("greedy", ("c",)), ("greedy", ("x",), 1), ("greedy", ["c"], 1), ("greedy", ("c",), -1), ("greedy", ("c",), True),
    ("greedy", ("c",), "1"), ("greedy", "c", 1), ("greedy", ("s",), 1), ("greedy", ("_",), 1), ("greedy", ("c",), 1, 1),
    ("cheapest", ("c",)), ("cheapest", ("x",), None), ("cheapest", ("c",), 10 ** 60), ("cheapest", ("c",), False),
    ("dearest", ("c",), 1), (("within",), 1), (None, 1), (1, 1),
)


def state_of(bench):
    return bench.book, bench.is_careful, bench.last, bench.pledges, list(bench), len(bench), str(bench)


class PledgeTest(RefusedTest):
    def assert_kept(self, right, book, pledge, careful=False):
        bench = Bench(book, careful=careful)
        if right:
            self.assertEqual((bench.demand(pledge), bench.pledges, pledge in bench), ((), (pledge,), True))
        else:
            self.assert_refused(Refused, pledge, bench.demand, pledge)
            self.assertEqual((bench.pledges, pledge in bench), ((), False))

    def test_each_kind(self):
        for book in SAMPLES:
            for careful in MODES:
                self.assert_kept(is_never_stuck(book, careful=careful), book, NEVER, careful)
                most = greatest_excess(book, careful=careful)
                for number in (0, 1, 2, most or 0, (most or 0) + 1, 10 ** 59, max(0, (most or 0) - 1)):
                    self.assert_kept(most is not None and most <= number, book, ("within", number), careful)
                told = ratio(book, careful=careful)
                for above, below in ((0, 1), (0, 7), (1, 1), (3, 3), (2, 1), (3, 2), (10 ** 40 - 1, 10 ** 40), (10 ** 59, 1)):
                    right = told is not None and told[0] * below <= above * told[1]
                    self.assert_kept(right, book, ("ratio", above, below), careful)
                for tree in book.operators.each_tree(3):
                    price, least = greedy_price(book, tree, careful=careful), cheapest_price(book, tree)
                    for number in {price, least, None, 0, 1}:
                        self.assert_kept(number == price, book, ("greedy", tree, number), careful)
                        self.assert_kept(number == least, book, ("cheapest", tree, number), careful)

    def test_values_near_them(self):
        self.assert_kept(True, ADDS, ("ratio", 3, 1))
        self.assert_kept(True, ADDS, ("ratio", 6, 2))
        self.assert_kept(False, ADDS, ("ratio", 3 * 10 ** 50 - 1, 10 ** 50))
        self.assert_kept(True, ADDS, ("ratio", 3 * 10 ** 50 + 1, 10 ** 50))
        self.assert_kept(False, FREE, ("ratio", 10 ** 59, 1))
        self.assert_kept(True, RING, ("ratio", 0, 5))
        self.assert_kept(False, STEPS, ("within", 0))
        self.assert_kept(True, STEPS, ("within", 1))
        self.assert_kept(False, ADDS, ("within", 10 ** 59))
        self.assert_kept(True, LOADS, ("greedy", ("s", "v"), None))
        self.assert_kept(False, LOADS, ("greedy", ("s", "v"), 0))
        self.assert_kept(False, LOADS, ("greedy", ("s", "v"), None), True)
        self.assert_kept(True, LOADS, ("greedy", ("s", "v"), 3), True)
        self.assert_kept(True, LOADS, ("cheapest", ("s", "v"), 3))
        self.assert_kept(False, RING, ("cheapest", ("c",), None))
        self.assert_kept(True, STEPS.without_rule(3), ("cheapest", ("c",), None))
        self.assert_kept(False, STEPS.without_rule(3), ("cheapest", ("c",), 0))

    def test_no_pledges(self):
        bench = Bench(STEPS)
        bench.demand(WITHIN)
        for value in (*NO_PLEDGES, *everything()):
            with self.subTest(value=value):
                self.assert_refused(InvalidOperation, None, bench.demand, value)
                self.assert_refused(InvalidOperation, None, bench.waive, value)
        self.assertEqual((bench.pledges, bench.undo(), bench.pledges), ((WITHIN,), (), ()))

    def test_there_already_or_not(self):
        bench = Bench(STEPS)
        bench.demand(WITHIN)
        bench.demand(("ratio", 2, 1))
        self.assert_refused(InvalidOperation, None, bench.demand, WITHIN)
        self.assert_refused(InvalidOperation, None, bench.waive, ("within", 2))
        self.assert_refused(InvalidOperation, None, bench.waive, ("ratio", 4, 2))
        self.assert_refused(InvalidOperation, None, bench.waive, ("within", True))
        self.assertEqual(bench.demand(("ratio", 4, 2)), ())
        self.assertEqual((bench.waive(("ratio", 2, 1)), bench.pledges), ((), (WITHIN, ("ratio", 4, 2))))
        self.assertEqual((bench.demand(("ratio", 2, 1)), bench.pledges[-1]), ((), ("ratio", 2, 1)))

    def test_just_ten(self):
        bench = Bench(STEPS)
        for number in range(1, 11):
            bench.demand(("within", number))
        self.assertEqual(len(bench.pledges), 10)
        self.assert_refused(TooMany, 10, bench.demand, ("within", 11))
        self.assert_refused(TooMany, 10, bench.demand, ("within", 0))
        self.assert_refused(InvalidOperation, None, bench.demand, ("within", 5))
        self.assert_refused(InvalidOperation, None, bench.demand, None)
        bench.waive(("within", 3))
        self.assert_refused(Refused, ("within", 0), bench.demand, ("within", 0))
        self.assertEqual((bench.demand(("within", 11)), len(bench.pledges)), ((), 10))


class ChangesTest(RefusedTest):
    def test_examples(self):
        bench = Bench(STEPS)
        told = [bench.demand(WITHIN), bench.draw(LINE), bench.last, str(bench),
                bench.during(lambda same: same.waive(WITHIN))]
        self.assertEqual(told, [(), (), 1, "bench with 5 rules, 1 pledges", ()])
        self.assert_refused(Refused, WITHIN, bench.move, 0, 3)
        told = [bench.undo(), bench.waive(WITHIN), bench.move(0, 1), bench.demand(("greedy", SIX, 2)),
                bench.undo(many=2), "goal r" in bench]
        self.assertEqual(told, [(), (), (1, None), (), (None, 1), True])

    def test_news_and_books(self):
        rng = Random(2)
        news = set()
        for book in SAMPLES:
            for careful in MODES:
                bench = Bench(book, careful=careful)
                for _ in range(6):
                    before, right = bench.last, bench.book
                    many = len(right)
                    kind = rng.choice(("draw", "erase", "move"))
                    if kind == "draw" and many < 12:
                        rule = (right.goal, rng.randint(0, 9), (rng.choice(right.operators.constants or ("r",)),))
                        at = rng.choice((None, rng.randint(0, many)))
                        if any(told[0] == rule[0] and told[2] == rule[2] for told in right.rules) or rule[2] == ("r",):
                            continue
                        right = right.with_rule(rule, at=at)
                        told = bench.draw(" ".join(["rule", rule[0], str(rule[1]), *rule[2]]), at=at)
                    elif kind == "erase" and many:
                        index = rng.randrange(many)
                        right, told = right.without_rule(index), bench.erase(index)
                    elif kind == "move" and many:
                        index, to = rng.randrange(many), rng.randrange(many)
                        right, told = right.moved(index, to), bench.move(index, to)
                    else:
                        continue
                    after = greatest_excess(right, careful=careful)
                    self.assertEqual((bench.book, bench.last), (right, after))
                    self.assertEqual(told, () if before == after else (before, after))
                    news.add(told)
        self.assertGreater(len(news), 5)

    def test_an_index_of_a_drawn_rule(self):
        for at in (None, *range(5)):
            bench = Bench(STEPS)
            bench.draw(LINE, at=at)
            self.assertEqual(bench.book, STEPS.with_rule(("r", 1, ("s", "s", "r")), at=at))
            bench.undo()
            self.assertEqual(bench.book, STEPS)

    def test_lines_and_numbers(self):
        bench = Bench(STEPS)
        before = state_of(bench)
        for value in (*NO_LINES, *others(lambda value: False), *STEPS.lines[:3]):
            with self.subTest(value=value):
                self.assert_refused(ParseError, None, bench.draw, value)
                self.assert_refused(ParseError, None, bench.draw, value, at=99)
        for value in (*others(lambda value: value is None or is_plain_integer(value) and 0 <= value <= 4), 5, True):
            self.assert_refused(InvalidNumber, value, bench.draw, LINE, at=value)
            self.assert_refused(InvalidNumber, value, bench.draw, "rule r 1 x", at=value)
        for value in (*others(lambda value: is_plain_integer(value) and 0 <= value <= 3), 4, True, None):
            self.assert_refused(InvalidNumber, value, bench.erase, value)
            self.assert_refused(InvalidNumber, value, bench.move, value, 0)
            self.assert_refused(InvalidNumber, value, bench.move, value, None)
            self.assert_refused(InvalidNumber, value, bench.move, 0, value)
        for line in ("rule r 1 c", "rule r 9 s r", "rule c 1 s r", "rule r 1 s", "rule r 1 r"):
            self.assert_refused(InvalidBook, None, bench.draw, line)
            self.assert_refused(InvalidBook, None, bench.draw, line, at=0)
        self.assertEqual(state_of(bench), before)
        self.assert_refused(NothingToUndo, 1, bench.undo)

    def test_errors_in_their_order(self):
        call = lambda line, at: Bench(STEPS).draw(line, at=at)
        lines = wrong_values(ParseError, *NO_LINES[:4])
        self.assert_order(call, (LINE, [(line, error, None) for line, error, _ in lines]),
                          (4, wrong_values(InvalidNumber, 5, -1, True, "0")))
        books = wrong_values(InvalidBook, None, STEPS.lines)
        modes = wrong_values(InvalidOperation, 0, 1, None, "True")
        self.assert_order(lambda book, careful: Bench(book, careful=careful), (STEPS, books), (True, modes))

    def test_limits_come_ahead_of_pledges(self):
        self.assert_refused(TooMany, 60, Bench, SIXTY_ONE)
        self.assert_refused(TooMany, 600, Bench, ONE_MORE)
        self.assert_refused(InvalidOperation, None, Bench, SIXTY_ONE, careful=0)
        # With the last rule there are too many states, and the pledges would not hold.
        for book, limit in ((ONE_MORE, 600), (SIXTY_ONE, 60)):
            last = len(book) - 1
            for index in range(last, -1, -1):
                try:
                    bench = Bench(book.without_rule(index))
                except TooMany:
                    continue
                line = book.lines[index - len(book)]
                tree = ("c",)
                bench.demand(("greedy", tree, greedy_price(bench.book, tree)))
                before = state_of(bench)
                self.assert_refused(TooMany, limit, bench.draw, line, at=index)
                self.assertEqual(state_of(bench), before)
                break
            else:
                self.fail("no rule can be left out")

    def test_the_first_pledge_that_would_not_hold(self):
        bench = Bench(STEPS)
        pledges = [("greedy", SIX, 3), WITHIN, NEVER, ("cheapest", SIX, 2), ("ratio", 1, 1)]
        for pledge in pledges:
            bench.demand(pledge)
        before = state_of(bench)
        self.assert_refused(Refused, pledges[0], bench.move, 0, 3)
        self.assert_refused(Refused, pledges[0], bench.erase, 3)
        self.assert_refused(Refused, pledges[0], bench.draw, "rule r 0 s s s s s s r", at=0)
        self.assert_refused(Refused, WITHIN, bench.draw, "rule r 0 s s s s s s r")
        self.assertEqual(state_of(bench), before)
        bench.waive(pledges[0])
        self.assert_refused(Refused, WITHIN, bench.move, 0, 2)
        self.assert_refused(Refused, WITHIN, bench.move, 0, 3)
        bench.demand(pledges[0])
        self.assert_refused(Refused, WITHIN, bench.move, 0, 2)
        bench.undo(many=2)
        self.assertEqual(state_of(bench), before)
        bench.waive(WITHIN)
        self.assert_refused(Refused, ("cheapest", SIX, 2), bench.draw, "rule r 1 s s s s s s c")
        bench.waive(("ratio", 1, 1))
        bench.waive(("greedy", SIX, 3))
        self.assert_refused(Refused, NEVER, bench.erase, 2)
        self.assertEqual(bench.move(0, 2), (1, None))

    def test_the_mode(self):
        for careful in MODES:
            bench = Bench(LOADS, careful=careful)
            self.assertIs(bench.is_careful, careful)
            if careful:
                self.assertEqual(bench.demand(NEVER), ())
            else:
                self.assert_refused(Refused, NEVER, bench.demand, NEVER)


class UndoTest(RefusedTest):
    def walk(self):
        """A bench, and its states one after the other."""
        bench = Bench(STEPS)
        states = [state_of(bench)]
        for change in (lambda: bench.demand(WITHIN), lambda: bench.draw(LINE), lambda: bench.move(1, 1),
                       lambda: bench.waive(WITHIN), lambda: bench.move(0, 4), lambda: bench.erase(3),
                       lambda: bench.demand(("within", 10 ** 50)) if bench.last is not None else bench.erase(0)):
            change()
            states.append(state_of(bench))
        return bench, states

    def test_one_by_one_and_many_at_once(self):
        bench, states = self.walk()
        last = len(states) - 1
        for many in range(last + 1):
            news = bench.undo(many=many)
            self.assertEqual(state_of(bench), states[last - many])
            before, after = states[last][2], states[last - many][2]
            self.assertEqual(news, () if before == after else (before, after))
            news = bench.redo(many=many)
            self.assertEqual(state_of(bench), states[last])
            self.assertEqual(news, () if before == after else (after, before))
        for at in range(last - 1, -1, -1):
            bench.undo()
            self.assertEqual(state_of(bench), states[at])
        for at in range(1, last + 1):
            bench.redo()
            self.assertEqual(state_of(bench), states[at])

    def test_nothing_to_undo(self):
        bench, states = self.walk()
        last = len(states) - 1
        for many in (last + 1, 10 ** 60 - 1):
            self.assert_refused(NothingToUndo, many, bench.undo, many=many)
        self.assert_refused(NothingToUndo, 1, bench.redo)
        self.assertEqual((bench.redo(many=0), bench.undo(many=0)), ((), ()))
        bench.undo(many=3)
        self.assert_refused(NothingToUndo, 4, bench.redo, many=4)
        self.assert_refused(NothingToUndo, last - 2, bench.undo, many=last - 2)
        self.assertEqual(state_of(bench), states[last - 3])
        fresh = Bench(ADDS)
        self.assert_refused(NothingToUndo, 1, fresh.undo)
        self.assert_refused(NothingToUndo, 1, fresh.redo, many=1)
        self.assertEqual((fresh.undo(many=0), fresh.redo(many=0)), ((), ()))

    def test_numbers(self):
        bench, states = self.walk()
        bench.undo(many=2)
        for value in (*others(lambda value: is_plain_integer(value) and value >= 0), True, -1, None):
            self.assert_refused(InvalidNumber, value, bench.undo, many=value)
            self.assert_refused(InvalidNumber, value, bench.redo, many=value)
        self.assertEqual(state_of(bench), states[-3])

    def test_another_change_comes(self):
        bench, states = self.walk()
        bench.undo(many=4)
        # Refused calls are no changes.
        self.assert_refused(InvalidBook, None, bench.draw, "rule r 1 s r")
        self.assert_refused(InvalidOperation, None, bench.waive, None)
        self.assert_refused(Refused, WITHIN, bench.move, 0, 3)
        bench.redo(many=2)
        self.assertEqual(state_of(bench), states[-3])
        bench.undo(many=2)
        self.assertEqual(bench.demand(NEVER), ())
        self.assert_refused(NothingToUndo, 1, bench.redo)
        bench.undo()
        self.assertEqual(state_of(bench), states[-5])
        self.assertEqual((bench.redo(), bench.pledges[-1]), ((), NEVER))

    def test_changes_in_which_all_stays_equal(self):
        bench = Bench(STEPS)
        self.assertEqual((bench.move(2, 2), bench.undo(), bench.redo()), ((), (), ()))
        self.assert_refused(NothingToUndo, 2, bench.undo, many=2)

    def test_many_changes(self):
        bench = Bench(STEPS)
        for _ in range(300):
            bench.move(2, 3)
            bench.move(3, 2)
        self.assertEqual((bench.undo(many=600), bench.book), ((), STEPS))
        self.assertEqual((bench.redo(many=599), bench.book), ((), STEPS.moved(2, 3)))


class TrialTest(RefusedTest):
    def test_behind_the_block_it_is_as_before(self):
        bench = Bench(STEPS)
        bench.demand(WITHIN)
        bench.draw(LINE)
        bench.undo()
        before = state_of(bench)
        with bench.trial() as same:
            self.assertIs(same, bench)
            self.assertEqual(bench.waive(WITHIN), ())
            self.assertEqual(bench.move(0, 3), (1, None))
            self.assert_refused(NothingToUndo, 1, bench.redo)
            self.assertIsNone(bench.last)
        self.assertEqual(state_of(bench), before)
        self.assertEqual((bench.redo(), len(bench)), ((), 5))
        self.assertEqual((bench.undo(many=2), bench.book, bench.pledges), ((), STEPS, ()))

    def test_errors_go_on(self):
        bench = Bench(STEPS)
        bench.move(0, 0)
        before = state_of(bench)
        with self.assertRaises(KeyError):
            with bench.trial():
                bench.erase(0)
                raise KeyError("x")
        self.assertEqual(state_of(bench), before)
        with self.assertRaises(InvalidBook):
            with bench.trial():
                bench.erase(0)
                bench.draw("rule r 1 s r")
        self.assertEqual((state_of(bench), bench.undo()), (before, ()))

    def test_blocks_inside_blocks(self):
        bench = Bench(STEPS)
        with bench.trial():
            bench.erase(0)
            inner = state_of(bench)
            with bench.trial() as same:
                same.erase(0)
                with bench.trial():
                    bench.undo(many=2)
                    self.assertEqual(bench.book, STEPS)
                self.assertEqual(len(bench), 2)
            self.assertEqual(state_of(bench), inner)
            self.assertEqual((bench.undo() == (), bench.book), (inner[2] == 1, STEPS))
        self.assertEqual(bench.book, STEPS)
        self.assert_refused(NothingToUndo, 1, bench.undo)
        self.assert_refused(NothingToUndo, 1, bench.redo)

    def test_one_trial_for_several_blocks(self):
        bench = Bench(STEPS)
        trial = bench.trial()
        for _ in range(2):
            with trial:
                bench.erase(0)
                with trial:
                    bench.erase(0)
                    self.assertEqual(len(bench), 2)
                self.assertEqual(len(bench), 3)
            self.assertEqual(len(bench), 4)
        bench.erase(3)
        with trial:
            bench.undo()
        self.assertEqual(len(bench), 3)

    def test_changes_taken_back_inside_a_block(self):
        bench = Bench(STEPS)
        bench.erase(0)
        bench.erase(0)
        with bench.trial():
            bench.undo()
            bench.move(0, 1)
            bench.undo(many=2)
            self.assertEqual(bench.book, STEPS)
        self.assertEqual((len(bench), bench.undo(many=2) is not None, bench.book), (2, True, STEPS))
        with bench.trial():
            bench.redo()
        self.assertEqual((bench.redo(many=2) is not None, len(bench)), (True, 2))

    def test_during(self):
        bench = Bench(STEPS)
        calls = []
        told = bench.during(lambda same: (calls.append(same is bench), same.erase(0), len(same))[2])
        self.assertEqual((told, calls, len(bench)), (3, [True], 4))
        self.assertIsNone(bench.during(lambda same: None))
        with self.assertRaises(ZeroDivisionError):
            bench.during(lambda same: (same.erase(1), 1 // 0))
        self.assertEqual((bench.book, bench.during(lambda same: same.during(len))), (STEPS, 4))


class TwinTest(RefusedTest):
    def test_independent(self):
        bench = Bench(STEPS, careful=True)
        bench.demand(WITHIN)
        bench.draw(LINE)
        bench.move(0, 0)
        bench.undo()
        twin = bench.twin()
        self.assertEqual((twin == bench, state_of(twin), twin is bench), (True, state_of(bench), False))
        self.assertEqual((twin.redo(), twin.undo(many=3), twin.book), ((), (), STEPS))
        self.assertEqual((len(bench), bench.pledges), (5, (WITHIN,)))
        self.assertEqual((bench.redo(), bench.undo(many=2), len(bench)), ((), (), 4))
        self.assert_refused(NothingToUndo, 2, bench.undo, many=2)
        twin.erase(0)
        self.assertEqual((len(twin), len(bench)), (3, 4))
        self.assertIs(twin == bench, False)

    def test_inside_a_block(self):
        bench = Bench(STEPS)
        with bench.trial():
            bench.erase(0)
            twin = bench.twin()
        self.assertEqual((len(twin), len(bench)), (3, 4))
        twin.undo()
        self.assertEqual((twin.book, twin == bench), (STEPS, True))


class ObjectTest(RefusedTest):
    def test_properties(self):
        for book in SAMPLES:
            for careful in MODES:
                bench = Bench(book, careful=careful)
                self.assertEqual((bench.book, bench.pledges, len(bench)), (book, (), len(book)))
                self.assertIs(bench.is_careful, careful)
                self.assertEqual((bench.last, list(bench)), (greatest_excess(book, careful=careful), list(book.lines)))
                self.assertEqual(str(bench), f"bench with {len(book)} rules, 0 pledges")

    def test_values_in_it(self):
        bench = Bench(STEPS)
        bench.demand(WITHIN)
        bench.demand(("greedy", SIX, 3))
        inside = (*STEPS.lines, WITHIN, ("greedy", SIX, 3))
        for value in inside:
            self.assertIs(value in bench, True)
        odd = [("within", True), ("within", 2), ["within", 1], "within 1", ("greedy", list(SIX), 3), "rule r 1 s s r",
               "op c", 0, ("greedy", SIX, None), NEVER, ("op c 0",)]
        for value in (*odd, *everything(), *NO_PLEDGES):
            if value not in STEPS.lines:
                self.assertIs(value in bench, False, value)
        for line in ADDS.lines:
            self.assertIs(line in bench, line in STEPS.lines)

    def test_equal_benches(self):
        bench, other = Bench(STEPS), Bench(Book.from_lines(*STEPS.lines), careful=False)
        self.assertEqual((bench == other, bench != other), (True, False))
        self.assertIs(bench == Bench(STEPS, careful=True), False)
        bench.demand(WITHIN)
        self.assertEqual((bench == other, bench != other), (False, True))
        other.demand(NEVER)
        other.demand(WITHIN)
        self.assertIs(bench == other, False)
        bench.demand(NEVER)
        # The order of the pledges counts, and what can be taken back does not.
        self.assertIs(bench == other, False)
        bench.waive(WITHIN)
        bench.demand(WITHIN)
        self.assertIs(bench == other, True)
        for value in (*everything(), STEPS, None):
            self.assertIs(bench == value, False)
            self.assertIs(bench != value, True)

    def test_books_and_pledges_stay(self):
        bench = Bench(STEPS)
        book, pledges = bench.book, bench.pledges
        bench.erase(0)
        bench.demand(NEVER)
        self.assertEqual((book, pledges), (STEPS, ()))


if __name__ == "__main__":
    unittest.main()
