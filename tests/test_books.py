"""Stage 3: what is a book, and its lines (0.1, 0.2, 0.4, 0.8, 3.1)."""

import unittest
from itertools import permutations

from munchbehind.base import books
from munchbehind.base.books import Book
from munchbehind.base.trees import Operators
from munchbehind.errors import InvalidBook, InvalidOperators, ParseError
from tests.oracles import ADDS, EXAMPLES, LOADS, RING, STEPS, Truth, random_book
from tests.refused import RefusedTest, wrong_values
from tests.values import everything, others

OPS = Operators({"c": 0, "p": 2, "s": 1, "v": 0})
RULE = ("r", 1, ("p", "r", "c"))
LINES = ("op c 0", "op p 2", "goal r", "rule r 3 p r c", "rule a 0 r", "rule r 1 c")


def rules(many):
    """So many different rules of one nonterminal."""
    patterns = [("s",) * at + (last,) for at in range(6) for last in ("c", "v", "r")]
    return tuple([("r", 1, pattern) for pattern in patterns if pattern != ("r",)][:many])


class MadeTest(RefusedTest):
    def assert_no_book(self, goal, told):
        self.assert_refused(InvalidBook, None, Book, OPS, goal, told)

    def assert_no_rule(self, *told):
        self.assert_no_book("r", (told,))
        self.assert_no_book("r", (RULE, told))

    def test_constants(self):
        told = (books.MAX_RULES, books.MAX_PATTERN, books.MAX_PRICE, books.MAX_NONTERMINALS)
        self.assertEqual(told, (12, 7, 9, 6))

    def test_one_and_eight_operators(self):
        for many in (1, 8):
            ops = Operators({name: at % 3 for at, name in enumerate("hijklmno"[:many])})
            book = Book(ops, "r", (("r", 0, ("h",)),))
            self.assertEqual((book.operators, book.rules), (ops, (("r", 0, ("h",)),)))

    def test_none_to_twelve_rules(self):
        for many in (0, 1, 12):
            self.assertEqual(Book(OPS, "r", rules(many)).rules, rules(many))
        self.assert_no_book("r", rules(13))
        self.assert_no_book("r", rules(16))

    def test_patterns_of_one_to_seven_names(self):
        good = [("c",), ("a",), ("s", "a"), ("p", "r", "r"), ("p", "s", "c", "r"), ("s",) * 6 + ("c",)]
        good += [("p", "p", "p", "r", "r", "r", "r"), ("s",) * 6 + ("a",)]
        for pattern in good:
            self.assertEqual(Book(OPS, "r", (("r", 0, pattern),)).rules[0][2], pattern)
        bad = [(), ("s",) * 7 + ("c",), ("p",) * 3 + ("c",) * 5, ("s",) * 7 + ("r",), ("s",) * 6, ("s",) * 7]
        bad += [("p",), ("p", "r"), ("p", "c", "s"), ("s", "p", "r"), ("s",)]
        bad += [("c", "c"), ("r", "r"), ("a", "c"), ("s", "r", "r"), ("p", "c", "c", "c"), ("c", "s", "c"),
                ("s", "a", "s")]
        for pattern in bad:
            with self.subTest(pattern=pattern):
                self.assert_no_rule("r", 0, pattern)

    def test_words_of_patterns(self):
        for word in others(lambda value: isinstance(value, str) and value.isalpha() and value.islower()):
            with self.subTest(word=word):
                self.assert_no_rule("r", 0, ("s", word))
                self.assert_no_rule("r", 0, (word,))
        for word in ("_", "S", "s1", "abcdefghi", "", "a b", 0, True, None, ("c",), ["c"]):
            self.assert_no_rule("r", 0, ("p", "c", word))

    def test_patterns_are_tuples(self):
        for value in (["c"], "c", "s c", {"c": 0}, None, 0, (("c",),), [("c",)]):
            self.assert_no_rule("r", 0, value)

    def test_prices(self):
        for price in range(10):
            self.assertEqual(Book(OPS, "r", (("r", price, ("c",)),)).rules[0][1], price)
        for price in others(lambda value: type(value) is int and 0 <= value <= 9):
            with self.subTest(price=price):
                self.assert_no_rule("r", price, ("c",))
        for price in (10, -1, True, False, "1", None, 10 ** 60, (1,)):
            self.assert_no_rule("r", price, ("c",))

    def test_six_nonterminals(self):
        chain = "abdefg"
        six = tuple([(one, 1, (other,)) for one, other in zip(chain, chain[1:])])
        self.assertEqual(Book(OPS, "a", six).nonterminals, tuple(chain))
        self.assertEqual(Book(OPS, "g", six).nonterminals, tuple(chain))
        self.assert_no_book("h", six)
        self.assert_no_book("a", six + (("g", 1, ("s", "h")),))
        self.assert_no_book("a", six + (("h", 1, ("c",)),))
        self.assertEqual(len(Book(OPS, "a", six + (("g", 1, ("p", "b", "d")),)).nonterminals), 6)
        deep = (("a", 0, ("p", "p", "b", "d", "p", "e", "f")),)
        self.assertEqual(Book(OPS, "g", deep).nonterminals, tuple(chain))

    def test_nonterminals_are_no_operators(self):
        for word in ("c", "p", "s"):
            self.assert_no_book(word, ())
            self.assert_no_rule(word, 0, ("c",))
            self.assert_no_rule(word, 0, ("s", "r"))
        self.assertEqual(Book(OPS, "cc", (("ss", 0, ("vv",)),)).nonterminals, ("cc", "ss", "vv"))

    def test_goals(self):
        for goal in ("r", "goal", "rule", "op", "abcdefgh"):
            self.assertEqual(Book(OPS, goal, ()).goal, goal)
        for goal in others(lambda value: isinstance(value, str) and value.isalpha() and value.islower()):
            with self.subTest(goal=goal):
                self.assert_no_book(goal, ())
        for goal in ("abcdefghi", "R", "_", None, ("r",)):
            self.assert_no_book(goal, (RULE,))

    def test_nonterminals_of_rules_are_names(self):
        for name in others(lambda value: isinstance(value, str) and value.isalpha() and value.islower()):
            self.assert_no_rule(name, 0, ("c",))

    def test_chain_rules(self):
        self.assertEqual(Book(OPS, "r", (("r", 0, ("a",)), ("a", 0, ("r",)))).nonterminals, ("a", "r"))
        self.assert_no_rule("r", 0, ("r",))
        self.assert_no_rule("a", 0, ("a",))

    def test_rules_that_are_there_already(self):
        self.assert_no_book("r", (RULE, RULE))
        self.assert_no_book("r", (RULE, ("r", 2, ("p", "r", "c"))))
        self.assert_no_book("r", (RULE, ("a", 1, ("c",)), ("r", 9, ("p", "r", "c"))))
        self.assertEqual(len(Book(OPS, "r", (RULE, ("a", 1, ("p", "r", "c")), ("r", 1, ("p", "c", "r"))))), 3)

    def test_other_values_are_no_rules(self):
        for value in others(lambda value: value == ("r", 0, ("c",))):
            with self.subTest(value=value):
                self.assert_no_book("r", (value,))
                self.assert_no_book("r", (RULE, value))
        for value in (("r", 1), ("r", 1, ("c",), 0), ["r", 1, ("c",)], "rule r 1 c", ("r", ("c",), 1),
                      (1, "r", ("c",))):
            self.assert_no_book("r", (value,))

    def test_other_values_are_no_tuples_of_rules(self):
        for value in others(lambda value: value == () or value == (("r", 0, ("c",)),)):
            with self.subTest(value=value):
                self.assert_no_book("r", value)
        self.assert_no_book("r", [RULE])
        self.assert_no_book("r", RULE)
        self.assert_no_book("r", {RULE: True})

    def test_other_values_are_no_operators(self):
        for value in others(lambda value: isinstance(value, Operators)):
            with self.subTest(value=value):
                self.assert_refused(InvalidOperators, None, Book, value, "r", (RULE,))
        self.assert_refused(InvalidOperators, None, Book, {"c": 0, "p": 2}, "r", ())
        self.assert_refused(InvalidOperators, None, Book, STEPS, "r", ())

    def test_operators_come_ahead(self):
        slots = [
            (OPS, wrong_values(InvalidOperators, {"c": 0}, None, STEPS, ())),
            ("r", wrong_values(InvalidBook, "c", None, "R")),
            ((RULE,), wrong_values(InvalidBook, (RULE, RULE), [], None, ((),))),
        ]
        self.assert_order(Book, *slots)


class LinesTest(RefusedTest):
    def assert_not_parsed(self, index, *lines):
        self.assert_refused(ParseError, index, Book.from_lines, *lines)

    def test_lines_lead_back(self):
        for book in (*EXAMPLES, *[random_book(seed) for seed in range(20)], Book(OPS, "r", ())):
            self.assertEqual(Book.from_lines(*book.lines), book)
            self.assertEqual(Book.from_lines(*book.lines).rules, book.rules)
            told = (book.operators.lines, (f"goal {book.goal}",), tuple(
                f"rule {name} {price} {' '.join(pattern)}" for name, price, pattern in book.rules
            ))
            self.assertEqual(book.lines, sum(told, ()))

    def test_lines_in_any_order(self):
        made = Book.from_lines(*LINES)
        self.assertEqual(made.lines, LINES)
        for lines in permutations(LINES):
            book = Book.from_lines(*lines)
            told = [line for line in lines if line.startswith("rule")]
            self.assertEqual(book.lines, ("op c 0", "op p 2", "goal r", *told))
            self.assertEqual(book == made, told == list(LINES[3:]))

    def test_words_of_lines_may_be_names(self):
        lines = ("op op 0", "op goal 2", "goal rule", "rule rule 0 op", "rule rule 1 goal rule rule")
        self.assertEqual(Book.from_lines(*lines).rules, (("rule", 0, ("op",)), ("rule", 1, ("goal", "rule", "rule"))))

    def test_what_is_no_line(self):
        wrong = (
            "", " ", "op", "goal", "rule", "goal r r", "r goal", "goal R", "goal 1", "goal _", "goal abcdefghi",
            "Goal r", "goals r", "rule r", "rule r 1", "rule 1 r c", "rule r c", "r rule 1 c", "rule r c 1",
            "rule r 10 c", "rule r 01 c", "rule r -1 c", "rule r +1 c", "rule r 1.0 c", "rule r x c", "rule r one c",
            "rule r  c",
            "rule r 1 C", "rule r 1 _", "rule r 1 s 1", "rule R 1 c", "rule abcdefghi 1 c", "rule r 1 abcdefghi",
            "rule r 1" + " s" * 7 + " c", "rule r 1" + " s" * 20, "rules r 1 c", "op rule r 1 c", "goal rule r 1 c",
            "op a", "op a 3", "op a 0 0", "op 0 a", "rule r 1 c\n", "goal r\n", "\ngoal r", "rule r 1 c;",
            "rule\tr\t1\tc",
            "rule r \u0661 c", "rule r \u00b2 c", "goal \u00e4", "rule r 1 s\u00a0c", "rule r None c", "rule r True c",
        )
        for line in wrong:
            with self.subTest(line=line):
                self.assert_not_parsed(0, line)
                self.assert_not_parsed(6, *LINES, line)
                self.assert_not_parsed(2, "op c 0", "goal r", line, "rule r 0 c", "no line")

    def test_blanks(self):
        for line in ("op s 1", "goal r", "rule r 1 s r"):
            for other in (" " + line, line + " ", line.replace(" ", "  "), line.replace(" ", "  ", 1), line + "  "):
                self.assert_not_parsed(1, "op c 0", other)
            words = line.split(" ")
            for at in range(1, len(words)):
                self.assert_not_parsed(0, " ".join(words[:at]) + "  " + " ".join(words[at:]))
                self.assert_not_parsed(0, "".join(words))

    def test_figures(self):
        for figure in range(10):
            book = Book.from_lines("op c 0", "goal r", f"rule r {figure} c")
            self.assertEqual(book.rules, (("r", figure, ("c",)),))
        for figure in range(3):
            self.assertEqual(Book.from_lines(f"op c {figure}", "goal r").operators.arities, {"c": figure})
        for figure in range(3, 10):
            self.assert_not_parsed(1, "goal r", f"op c {figure}")

    def test_one_to_seven_names(self):
        book = Book.from_lines("op c 0", "op s 1", "goal r", "rule r 0" + " s" * 6 + " c")
        self.assertEqual(book.rules[0][2], ("s",) * 6 + ("c",))
        self.assert_not_parsed(3, "op c 0", "op s 1", "goal r", "rule r 0" + " s" * 7 + " c")
        self.assert_not_parsed(3, "op c 0", "op s 1", "goal r", "rule r 0")

    def test_other_values_are_no_lines(self):
        for value in everything():
            with self.subTest(value=value):
                if value == "op a 0":
                    continue
                self.assert_not_parsed(0, value)
                self.assert_not_parsed(6, *LINES, value)

    def test_operators_again_and_goals_again(self):
        self.assert_not_parsed(2, "op c 0", "op s 1", "op c 0", "goal r")
        self.assert_not_parsed(2, "op c 0", "goal r", "op c 1", "goal r")
        self.assert_not_parsed(2, "op c 0", "goal r", "goal r")
        self.assert_not_parsed(3, "op c 0", "goal r", "rule r 0 c", "goal a", "op c 0")
        self.assert_not_parsed(6, *LINES, LINES[0])
        self.assert_not_parsed(6, *LINES, LINES[2])
        self.assert_refused(InvalidBook, None, Book.from_lines, *LINES, LINES[3])

    def test_books_are_judged_behind_lines(self):
        refused = lambda error, *lines: self.assert_refused(error, None, Book.from_lines, *lines)
        nine = [f"op {name} 0" for name in "abcdefghi"]
        refused(InvalidOperators)
        refused(InvalidOperators, "goal r")
        refused(InvalidOperators, "goal r", "rule r 1 c")
        refused(InvalidOperators, *nine, "goal r")
        refused(InvalidOperators, *nine)
        refused(InvalidBook, "op c 0")
        refused(InvalidBook, "op c 0", "rule r 0 c")
        refused(InvalidBook, "op c 0", "goal c")
        refused(InvalidBook, "op s 1", "goal r", "rule r 0 s")
        refused(InvalidBook, "op c 0", "goal r", "rule r 0 r")
        refused(InvalidBook, "op c 0", "goal r", "rule r 0 c r")
        refused(InvalidBook, "op c 0", "goal r", "rule r 0 c", "rule r 1 c")
        refused(InvalidBook, "op s 1", "goal r", *[f"rule r {at} {'s ' * (at % 7)}{'ab'[at // 7]}" for at in range(7)],
                *[f"rule r 0 {'s ' * at}b" for at in range(6)])
        self.assert_not_parsed(9, *nine, "no line")
        self.assert_not_parsed(1, "rule r 0 r", "rule r")

    def test_a_rule_may_stand_ahead_of_its_operators(self):
        book = Book.from_lines("rule r 1 p r c", "goal r", "op p 2", "op c 0")
        self.assertEqual(book.rules, (("r", 1, ("p", "r", "c")),))


class ToldTest(RefusedTest):
    def test_properties(self):
        for book in (*EXAMPLES, *[random_book(seed) for seed in range(40)], Book(OPS, "r", ())):
            truth = Truth(book)
            self.assertEqual(book.nonterminals, tuple(truth.nonterminals))
            self.assertEqual(book.parts, tuple(truth.parts))
            self.assertIn(book.goal, book.nonterminals)
        self.assertEqual((STEPS.operators, STEPS.goal), (Operators({"c": 0, "s": 1}), "r"))

    def test_examples(self):
        self.assertEqual(str(STEPS), "book of 2 operators, 1 nonterminals, 4 rules")
        self.assertEqual((STEPS.rules[2], LOADS.nonterminals), (("r", 1, ("s", "r")), ("a", "r")))
        parts = (("c",), ("s", "r"), ("s", "s", "r"), ("s", "s", "s", "r"), ("s", "s", "s", "s", "r"))
        self.assertEqual(STEPS.parts, parts)
        self.assertEqual((LOADS.rules_of("a"), ADDS.lines[3:5]), ((3,), ("goal r", "rule r 3 p r c")))
        self.assertEqual((RING.parts, RING.nonterminals), ((("c",),), ("m", "n")))

    def test_parts_of_parts(self):
        book = Book(OPS, "r", (("r", 1, ("p", "p", "r", "c", "s", "a")), ("a", 0, ("r",)), ("a", 1, ("c",))))
        self.assertEqual(book.parts, (("c",), ("p", "p", "r", "c", "s", "a"), ("p", "r", "c"), ("s", "a")))

    def test_kinds_of_values(self):
        for book in EXAMPLES:
            for told in (book.rules, book.nonterminals, book.parts, book.lines, book.rules_of(book.goal)):
                self.assertIs(type(told), tuple)
            self.assertIs(type(book.operators), Operators)

    def test_len_iterating_and_str(self):
        for book in (*EXAMPLES, Book(OPS, "r", ())):
            self.assertEqual((len(book), list(book)), (len(book.rules), list(book.lines)))
            told = (len(book.operators), len(book.nonterminals), len(book.rules))
            self.assertEqual(str(book), "book of {} operators, {} nonterminals, {} rules".format(*told))
            self.assertTrue(all(line in book for line in book.lines))
        for value in others(lambda value: value == "op c 0"):
            self.assertFalse(value in STEPS)

    def test_equal_books_have_equal_lines(self):
        for one in EXAMPLES:
            for other in EXAMPLES:
                self.assertIs(one == Book.from_lines(*other.lines), one is other)
                self.assertIs(one != Book.from_lines(*other.lines), one is not other)
        self.assertFalse(STEPS == STEPS.moved(0, 1))
        self.assertFalse(STEPS == STEPS.with_price(0, 2))
        self.assertFalse(Book(OPS, "r", ()) == Book(OPS, "a", ()))
        self.assertFalse(Book(OPS, "r", ()) == Book(Operators({"c": 0}), "r", ()))
        for value in everything():
            self.assertIs(STEPS == value, False)
            self.assertIs(STEPS != value, True)
            self.assertIs(value == STEPS, False)
        self.assertIs(STEPS == STEPS.lines, False)

    def test_what_is_passed_is_not_shared(self):
        arities = {"c": 0, "s": 1}
        lines = list(LINES)
        ops = Operators(arities)
        book, other = Book(ops, "r", (("r", 0, ("c",)),)), Book.from_lines(*lines)
        arities["v"] = 0
        lines.clear()
        book.operators.arities["z"] = 0
        self.assertEqual((book.operators.arities, other.lines), ({"c": 0, "s": 1}, LINES))


if __name__ == "__main__":
    unittest.main()
