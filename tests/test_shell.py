"""Stage 16: a shell (0.2, 0.4, 14.1, 14.2, 16.1)."""

import unittest

from munchbehind.base.books import Book
from munchbehind.cover.covers import cheapest_price, count_covers, cover_price
from munchbehind.cover.greedy import excess, greedy, stuck_at
from munchbehind.decide.orders import best_orders, count_orders
from munchbehind.decide.papers import greatest_excess, is_bounded, is_paper, paper, worst_tree
from munchbehind.decide.pumps import Pump
from munchbehind.decide.ratios import ratio
from munchbehind.decide.sizes import greatest_by_sizes, least_behind
from munchbehind.decide.stuck import is_never_stuck, stuck_tree
from munchbehind.errors import (
    InvalidBook, InvalidNumber, InvalidOperation, InvalidOperators, InvalidTree, ParseError, Stuck, TooMany,
)
from munchbehind.text.shell import Shell
from munchbehind.text.texts import read_cover, read_paper, read_tree, write_book, write_tree
from munchbehind.use.bench import Bench
from tests.deciding import FREE, HOLE, MODES, NO_RULES, SAMPLES, SIX, piled_high, small_cuts
from tests.oracles import ADDS, LOADS, ONE_MORE, RING, SIXTY, SIXTY_ONE, STEPS, made_trees
from tests.refused import RefusedTest, wrong_values
from tests.values import others

TEXT = write_book(STEPS)
PLAIN = ("undo", "redo", "lines", "pledges", "behind", "worst", "ratio", "stuck", "paper", "orders")
GOOD = (
    "draw rule r 1 s s r", "draw 2 rule r 1 s s r", "erase 0", "move 0 1", "demand never stuck", "demand within 1",
    "demand ratio 1 1", "demand greedy 3 s s s s s s c", "demand cheapest 2 s s s s s s c", "waive within 1", "lines",
    "pledges", "behind", "worst", "ratio", "stuck", "paper", "is behind _ | s _ | c", "greedy s c", "cheapest s c",
    "excess s c", "price s c | 2 3", "covers s c", "sizes 3", "least 1", "pump 5 _ | s s s s _ | s s s s s s c", "orders",
)


def text_of(value):
    return "none" if value is None else str(value)


def shell_of(book, careful=False):
    return Shell(write_book(book), careful=careful)


class ExampleTest(RefusedTest):
    def test_examples(self):
        shell = Shell(TEXT)
        asked = ["behind", "worst", "ratio", "greedy s s s s s s c", "stuck", "demand within 1", "move 0 2"]
        told = ["1", "s s s s s s c", "1/1", "0 2 2 3", "none", "nothing", "refused within 1"]
        self.assertEqual([shell(line) for line in asked], told)
        asked = ["paper", "sizes 7", "price s c | 2 3", "price s c | 3", "orders",
                 "pump 5 _ | s s s s _ | s s s s s s c", "excess p"]
        told = ["within 1", "0; 0; 0; 0; 0; 0; 1", "1", "cover", "never stuck; 1; 0 1 2 3", "1; 0/1", "tree"]
        self.assertEqual(([shell(line) for line in asked], len(shell)), (told, 11))


class AskedTest(RefusedTest):
    """Commands that change nothing, against the functions that they stand for."""

    def asked(self):
        for book in (*SAMPLES, SIXTY):
            for careful in MODES:
                yield book, careful, shell_of(book, careful)

    def test_the_whole_book(self):
        for book, careful, shell in self.asked():
            self.assertEqual(shell("lines"), "; ".join(book.lines))
            self.assertEqual(shell("behind"), text_of(greatest_excess(book, careful=careful)))
            told = ratio(book, careful=careful)
            self.assertEqual(shell("ratio"), "none" if told is None else f"{told[0]}/{told[1]}")
            tree = stuck_tree(book, careful=careful)
            answer = shell("stuck")
            self.assertEqual(answer == "none", tree is None)
            if tree is not None:
                self.assertIsNotNone(stuck_at(book, read_tree(answer), careful=careful))
                self.assertEqual(len(read_tree(answer)), len(tree))
            self.assertEqual(shell("sizes 9"), "; ".join(map(text_of, greatest_by_sizes(book, 9, careful=careful))))

    def test_worst_trees_and_papers(self):
        for book, careful, shell in self.asked():
            answer = shell("worst")
            if not is_bounded(book, careful=careful):
                self.assertEqual(answer, "operation")
                told = read_paper(shell("paper"))
                self.assertIs(is_paper(book, told, careful=careful), True)
                contexts = " | ".join(write_tree(part) for part in told[1:])
                self.assertEqual(shell("is behind " + contexts), "yes")
                pump = Pump(book, *told[1:], careful=careful)
                self.assertEqual(shell(f"pump 7 {contexts}"), f"{pump.excess(7)}; {pump.rate[0]}/{pump.rate[1]}")
                continue
            self.assertEqual(shell("paper"), f"within {greatest_excess(book, careful=careful)}")
            tree = worst_tree(book, careful=careful)
            self.assertEqual(answer == "none", tree is None)
            if tree is not None:
                self.assertEqual(len(read_tree(answer)), len(tree))
                right = excess(book, read_tree(answer), careful=careful)
                self.assertEqual(right, greatest_excess(book, careful=careful))

    def test_trees(self):
        for book, careful, shell in self.asked():
            for tree in made_trees(book, 5)[:40]:
                text = " ".join(tree)
                try:
                    right = " ".join(map(str, greedy(book, tree, careful=careful)))
                except Stuck as error:
                    right = f"stuck at {error.place}"
                self.assertEqual(shell("greedy " + text), right)
                self.assertEqual(shell.answer("excess " + text), text_of(excess(book, tree, careful=careful)))
                self.assertEqual(shell("covers " + text), str(count_covers(book, tree)))
                least = cheapest_price(book, tree)
                answer = shell("cheapest " + text)
                if least is None:
                    self.assertEqual(answer, "not covered")
                else:
                    self.assertEqual(cover_price(book, tree, read_cover(answer)), least)
                    self.assertEqual(shell(f"price {text} | {answer}"), str(least))

    def test_least_trees(self):
        for book, careful, shell in self.asked():
            for number in (0, 1, 5, 50):
                answer = shell(f"least {number}")
                try:
                    tree = least_behind(book, number, careful=careful)
                except TooMany:
                    self.assertEqual(answer, "many 40")
                    continue
                self.assertEqual(answer == "none", tree is None)
                if tree is not None:
                    self.assertEqual(len(read_tree(answer)), len(tree))
                    self.assertGreaterEqual(excess(book, read_tree(answer), careful=careful), number)

    def test_pumps(self):
        for book, careful, shell in self.asked():
            for cut in small_cuts(book, many=10):
                text = " | ".join(" ".join(part) for part in cut)
                right = is_paper(book, ("behind", *cut), careful=careful)
                self.assertEqual(shell("is behind " + text), "yes" if right else "no")
                try:
                    pump = Pump(book, *cut, careful=careful)
                except InvalidOperation:
                    self.assertEqual(shell("pump 0 " + text), "operation")
                    continue
                for times in (0, 1, 10 ** 18):
                    rate = "/".join(map(str, pump.rate))
                    self.assertEqual(shell(f"pump {times} {text}"), f"{pump.excess(times)}; {rate}")
                self.assertEqual(shell(f"pump {10 ** 18 + 1} {text}"), "number")

    def test_orders(self):
        for book, careful, shell in self.asked():
            if count_orders(book) > 720:
                self.assertEqual(shell("orders"), "many 720")
                continue
            (never, most), orders = best_orders(book, careful=careful)
            word = "never stuck" if never else "stuck"
            self.assertEqual(shell("orders"), f"{word}; {text_of(most)}; {' '.join(map(str, orders[0]))}")
        book = Book.from_lines("op c 0", "op v 0", "op s 1", "goal r", "rule r 1 s c", "rule r 1 v", "rule r 1 s a",
                               "rule a 1 c", "rule a 1 b", "rule b 1 a")
        self.assertEqual(shell_of(book)("orders")[:11], "never stuck")
        stuck = Book.from_lines("op c 0", "op v 0", "op p 2", "goal r", "rule r 1 p a b", "rule r 1 p b a",
                                "rule a 1 c", "rule b 1 v")
        self.assertEqual(shell_of(stuck)("orders"), "stuck; 0; 0 1 2 3")
        self.assertEqual(shell_of(stuck, True)("orders"), "never stuck; 0; 0 1 2 3")

    def test_great_numbers(self):
        lines = ["op c 0", "op s 1", "goal r", "rule r 1 s r", "rule r 1 a", "rule a 1 r", "rule a 0 s r", "rule r 0 c",
                 "rule r 1 s a", "rule a 2 s a", "rule a 0 c"]
        book = Book.from_lines(*lines)
        for many in (150, 1900):
            tree = ("s",) * many + ("c",)
            number = count_covers(book, tree)
            answer, figures = shell_of(book)("covers " + " ".join(tree)), 0
            self.assertGreater(number, 3 ** many)
            for sign in answer:
                figures = 10 * figures + int(sign)
            self.assertEqual((figures, answer[0] != "0"), (number, True))


class ChangesTest(RefusedTest):
    def test_changes_in_a_row(self):
        shell, bench = Shell(TEXT), Bench(STEPS)
        steps = [
            ("demand within 1", lambda: bench.demand(("within", 1)), "nothing"),
            ("draw rule r 1 s s r", lambda: bench.draw("rule r 1 s s r"), "nothing"),
            ("move 0 3", None, "refused within 1"),
            ("waive within 1", lambda: bench.waive(("within", 1)), "nothing"),
            ("move 0 3", lambda: bench.move(0, 3), "from 1 to none"),
            ("undo", lambda: bench.undo(), "from none to 1"),
            ("redo", lambda: bench.redo(), "from 1 to none"),
            ("redo", None, "undo"),
            ("undo", lambda: bench.undo(), "from none to 1"),
            ("draw 0 rule r 1 s s s s s s r", lambda: bench.draw("rule r 1 s s s s s s r", at=0), None),
            ("redo", None, "undo"),
            ("erase 0", lambda: bench.erase(0), None),
            ("demand greedy 3 s s s s s s c", lambda: bench.demand(("greedy", SIX, 3)), "nothing"),
            ("demand greedy none s s", None, "operation"),
            ("erase 9", None, "number"),
            ("undo", lambda: bench.undo(), "nothing"),
            ("undo", lambda: bench.undo(), None),
        ]
        counted = 0
        for line, change, answer in steps:
            told = shell(line)
            if change is not None:
                news = change()
                counted += 1
                right = "nothing" if news == () else "from {} to {}".format(*map(text_of, news))
                self.assertEqual(told, right)
            if answer is not None:
                self.assertEqual(told, answer)
            self.assertEqual((shell.bench() == bench, len(shell)), (True, counted))
            self.assertEqual(shell.bench().last, bench.last)

    def test_pledges(self):
        shell = Shell(TEXT)
        self.assertEqual(shell("pledges"), "nothing")
        texts = ["never stuck", "within 1", "ratio 3 2", "greedy 3 s s s s s s c", "cheapest 2 s s s s s s c",
                 "within 0000001", "within 12"]
        for text in texts:
            self.assertEqual(shell("demand " + text), "what" if "00" in text else "nothing")
        right = "; ".join(text for text in texts if "00" not in text)
        self.assertEqual(shell("pledges"), right)
        self.assertEqual(shell("demand within 1"), "operation")
        self.assertEqual((shell("waive within 1"), shell("waive within 1")), ("nothing", "operation"))
        self.assertEqual(shell("pledges"), right.replace("within 1; ", "", 1))
        self.assertEqual(shell("demand greedy 2 s s s s s s c"), "refused greedy 2 s s s s s s c")
        self.assertEqual(shell("demand cheapest none c"), "refused cheapest none c")
        self.assertEqual(shell("demand ratio 1 2"), "refused ratio 1 2")
        self.assertEqual((shell("demand ratio 1 0"), shell("waive ratio 1 0")), ("operation", "operation"))
        self.assertEqual((shell("demand greedy none x"), shell("demand cheapest 0 _")), ("operation", "operation"))
        for number in range(20, 30):
            answer = shell(f"demand within {number}")
        self.assertEqual(answer, "many 10")
        loads = shell_of(LOADS)
        told = [loads("demand greedy none s v"), loads("demand never stuck"), loads("pledges"), loads("erase 0")]
        self.assertEqual(told, ["nothing", "refused never stuck", "greedy none s v", "refused greedy none s v"])

    def test_the_mode(self):
        for careful in MODES:
            shell = shell_of(LOADS, careful)
            right = is_never_stuck(LOADS, careful=careful)
            self.assertEqual(shell("demand never stuck"), "nothing" if right else "refused never stuck")
            self.assertIs(shell.bench().is_careful, careful)
            self.assertEqual(shell("greedy s v"), "1 2" if careful else "stuck at 1")

    def test_the_bench_is_a_twin(self):
        shell = Shell(TEXT)
        shell("demand never stuck")
        bench = shell.bench()
        bench.undo()
        bench.erase(0)
        self.assertEqual((shell("pledges"), shell("lines")), ("never stuck", "; ".join(STEPS.lines)))
        self.assertEqual((shell("undo"), bench.pledges), ("nothing", ()))
        self.assertEqual((shell.bench().redo(), shell("redo"), len(shell)), ((), "nothing", 5))
        self.assertIsNot(shell.bench(), shell.bench())


class ErrorWordTest(RefusedTest):
    def test_each_word(self):
        shell = Shell(TEXT)
        words = {
            "tree": ["greedy p", "cheapest _", "excess c c", "covers s", "price x | 0", "pump 0 c | _ | c",
                     "pump 0 _ | _ | _", "pump 0 _ | s | c"],
            "book": ["draw rule r 1 s r", "draw rule r 1 s", "draw 0 rule c 1 s r"],
            "cover": ["price s c | 3", "price s c | 11", "price s c | 2 3 3"],
            "operation": ["waive never stuck", "pump 1 _ | s _ | s s s s s s c", "demand greedy 0 s"],
            "line": ["draw rule", "draw x", "draw 0", "draw 0 0 rule r 1 s s r", "draw rule r 10 s s r", "draw  rule r 1 s s r",
                     "draw rule r 1 s s r ", "draw 00 rule r 1 s s r", "draw goal r", "draw -1 rule r 1 s s r",
                     "draw 9 rule", "draw rule r 1 s s r\n"],
            "number": ["draw 5 rule r 1 s s r", "erase 4", "move 0 4", "move 4 0", "sizes 0", "sizes 41", "least 51",
                       f"pump {10 ** 18 + 1} _ | _ | c", "draw 9 rule r 1 s r", "erase " + "9" * 60],
            "undo": ["undo", "redo"],
            "refused within 0": ["demand within 0"],
            "refused ratio 0 1": ["demand ratio 0 1"],
        }
        for word, lines in words.items():
            for line in lines:
                with self.subTest(line=line):
                    self.assertEqual(shell(line), word)
        self.assertEqual((len(shell), shell.bench() == Bench(STEPS)), (0, True))
        self.assertEqual((shell_of(ADDS)("worst"), shell_of(FREE)("worst")), ("operation", "operation"))
        bare = shell_of(NO_RULES)
        self.assertEqual((bare("cheapest c"), len(bare), bare("covers c"), len(bare)), ("not covered", 0, "0", 1))
        shell = shell_of(piled_high("s s s c"))
        self.assertEqual([shell("worst"), shell("least 0"), shell("orders"), len(shell)],
                         ["many 5000", "many 40", "never stuck; 0; 1 0 2 3 4 5 6 7", 1])

    def test_limits(self):
        lines = ONE_MORE.lines
        shell = Shell("\n".join(lines[:-1]))
        self.assertEqual((shell("draw " + lines[-1]), len(shell), shell("undo")), ("many 600", 0, "undo"))
        for index in range(len(SIXTY_ONE)):
            try:
                shell = shell_of(SIXTY_ONE.without_rule(index))
            except TooMany:
                continue
            line = SIXTY_ONE.lines[index - len(SIXTY_ONE)]
            self.assertEqual((shell(f"draw {index} {line}"), len(shell)), ("many 60", 0))
            break
        else:
            self.fail("no rule can be left out")

    def test_what(self):
        shell = Shell(TEXT)
        odd = ["", " ", "what", "help", "behind 1", "draw", "erase", "erase x", "erase 01", "erase -1", "erase 1 ", "erase  1",
               "erase +1", "erase " + "9" * 61, "move 1", "move 1 2 3", "move 1  2", "move 01 1", "move a 1", "demand",
               "demand ", "demand never", "demand never  stuck", "demand never stuck ", "demand within", "demand within -1",
               "demand within 01", "demand within 1 1", "demand ratio 1", "demand ratio 1/1", "demand ratio 1 1 1",
               "demand greedy", "demand greedy 1", "demand greedy s c", "demand greedy  s c", "demand greedy None s c",
               "demand greedy 1 S", "demand greedy 1 ", "demand dearest 1 c", "demand cheapest -1 c", "demand cheapest nothing c", "waive",
               "waive x", "waive within", "undo 1", "undo ", "redo 1", "is", "is behind", "is behind ", "is behind _ | _",
               "is behind _ | _ | c | c", "is behind _ | _ |c", "is behind _ |  | c", "is  behind _ | _ | c",
               "is within _ | _ | c", "is behind _ | _ | C", "greedy", "greedy ", "greedy  s c", "greedy s  c", "greedy S",
               "greedy s c ", "greedy s1", "greedy s,c", "cheapest", "excess", "covers", "price", "price s c", "price s c |",
               "price s c | ", "price s c |2 3", "price s c | 2 3 | 3", "price s c | 12", "price s c | -1",
               "price s c | 2  3", "price s c | 02 3", "price | 2", "sizes", "sizes x", "sizes 01", "sizes -1", "sizes 1 2",
               "least", "least x", "least 1 1", "pump", "pump 1", "pump _ | _ | c", "pump 1 _ | _", "pump x _ | _ | c",
               "pump 01 _ | _ | c", "pump 1  _ | _ | c", "pump -1 _ | _ | c", "Behind", "BEHIND", "behind\n", "\nbehind"]
        for line in GOOD:
            odd += [" " + line, line.upper(), line.capitalize()]
            if not line.startswith("draw"):
                odd += [line + " ", line.replace(" ", "  ", 1) if " " in line else line + line, line + "\n"]
        odd += [line + " x" for line in PLAIN]
        for value in (*odd, *others(lambda value: False)):
            with self.subTest(value=value):
                self.assertEqual((shell(value), shell.answer(value)), ("what", "what"))
        self.assertEqual((len(shell), shell.bench() == Bench(STEPS)), (0, True))
        self.assertEqual(shell("undo"), "undo")

    def test_counting(self):
        shell = Shell(TEXT)
        counted = 0
        for line in GOOD:
            word = shell(line)
            wrong = word in ("what", "tree", "book", "cover", "operation", "line", "number", "undo") or (
                word.startswith(("refused", "many")))
            counted += not wrong
            self.assertEqual(len(shell), counted)
        self.assertEqual(counted, 20)
        loads = shell_of(LOADS)
        self.assertEqual((loads("greedy s v"), loads("excess s v"), len(loads)), ("stuck at 1", "none", 2))


class NewShellTest(RefusedTest):
    def test_errors_of_the_text_then_of_the_mode(self):
        call = lambda text, careful: Shell(text, careful=careful)
        texts = [(value, ParseError, None) for value in (None, 5, STEPS, list(STEPS.lines), STEPS.lines)]
        texts += [("", ParseError, 0), (TEXT + "\n", ParseError, 7), ("goal r", InvalidOperators, None)]
        texts += [("op c 0", InvalidBook, None), (TEXT + "\nrule r 2 s r", InvalidBook, None)]
        modes = wrong_values(InvalidOperation, 0, 1, None, "True")
        self.assert_order(call, (TEXT, texts), (True, modes))
        for value in others(lambda value: isinstance(value, str)):
            self.assert_refused(ParseError, None, Shell, value)
        for value in others(lambda value: value is True or value is False):
            self.assert_refused(InvalidOperation, None, Shell, TEXT, careful=value)
        self.assert_refused(TooMany, 60, Shell, write_book(SIXTY_ONE))
        self.assert_refused(TooMany, 600, Shell, write_book(ONE_MORE))
        self.assert_refused(InvalidOperation, None, Shell, write_book(SIXTY_ONE), careful=2)

    def test_shells_are_their_own(self):
        one, other = Shell(TEXT), Shell(TEXT)
        one("erase 0")
        self.assertEqual((len(one), len(other), other.bench().book == STEPS), (1, 0, True))
        with self.assertRaises(TypeError):
            iter(one)

    def test_equal_calls_on_equal_states_return_equal_results(self):
        for book in SAMPLES[:12]:
            for careful in MODES:
                shell, other = shell_of(book, careful), shell_of(book, careful)
                for line in GOOD[10:]:
                    self.assertEqual(shell(line), other(line))
                    self.assertEqual(shell(line), other(line))
                self.assertEqual(len(shell), len(other))

    def test_benches_keep_what_was_asked(self):
        shell = shell_of(RING)
        self.assertEqual([shell("stuck"), shell("greedy c"), shell("cheapest c"), shell("orders")],
                         ["c", "stuck at 0", "1", "never stuck; 0; 1 0 2"])
        self.assertEqual([shell("move 1 0"), shell("stuck"), shell("worst"), shell("undo"), shell("worst")],
                         ["nothing", "none", "c", "nothing", "none"])
        self.assertRaises(InvalidTree, write_tree, ())
        self.assertRaises(InvalidNumber, shell.bench().erase, 5)
        self.assertEqual(HOLE, ("_",))


if __name__ == "__main__":
    unittest.main()
