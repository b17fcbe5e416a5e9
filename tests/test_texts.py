"""Stage 15: texts, there and back (0.2, 0.4, 3.1, 15.1)."""

import unittest
from random import Random

from munchbehind.base.books import Book
from munchbehind.cover.greedy import greedy
from munchbehind.decide.pairs import Pairs
from munchbehind.decide.papers import bounds, is_paper, paper
from munchbehind.errors import (
    InvalidBook, InvalidCover, InvalidOperators, InvalidPaper, InvalidState, InvalidTree, ParseError, Stuck,
)
from munchbehind.text.texts import (
    read_book, read_cover, read_paper, read_state, read_tree, write_book, write_cover, write_paper, write_state,
    write_tree,
)
from tests.deciding import FREE, MODES, SAMPLES, SIX
from tests.oracles import ADDS, RING, STEPS, made_trees
from tests.refused import RefusedTest
from tests.values import everything, others

STATE = (((1, 2), (2,)), ("s", "r"), ("r",))
LEAF = (((0,), (0,)), ("c",), ("r",))
WITHIN = ("within", 12, {LEAF: -1, STATE: 10 ** 60 - 1})
BEHIND = ("behind", ("_",), ("p", "_", "c"), ("p", "v", "c"))


def spoiled(text):
    """A text with one sign, blank or line less, more, doubled or exchanged."""
    found = {text[:at] + text[at + 1:] for at in range(len(text))}
    found |= {text[:at] + sign + text[at:] for at in range(len(text) + 1) for sign in " \n|/-=0_Aa"}
    found |= {text[:at] + text[at + 1:at + 2] + text[at:at + 1] + text[at + 2:] for at in range(len(text))}
    lines = text.split("\n")
    found |= {"\n".join(lines[:at] + lines[at + 1:]) for at in range(len(lines))}
    found |= {"\n".join(lines[:at + 1] + lines[at:]) for at in range(len(lines))}
    found |= {"\n".join(lines[:at] + lines[at:at + 2][::-1] + lines[at + 2:]) for at in range(len(lines))}
    return sorted(found - {text})


class TextTest(RefusedTest):
    def assert_strict(self, read, write, text):
        """Each other text is the text of another value, or none."""
        value = read(text)
        self.assertEqual(write(value), text)
        for other in spoiled(text):
            with self.subTest(text=other):
                try:
                    told = read(other)
                except (ParseError, InvalidBook, InvalidOperators) as error:
                    if isinstance(error, ParseError):
                        self.assertTrue(error.number is None or 0 <= error.number <= other.count("\n"))
                    continue
                self.assertEqual(write(told), other)
                self.assertNotEqual(told, value)

    def test_examples(self):
        told = [write_tree(("p", "_", "c")), read_cover("0 2 2 3"), read_book(write_book(RING)) == RING]
        told += [write_state((((1, 2), ()), ("s", "r"), ("r",))), read_state("0/0 | c | r")]
        self.assertEqual(told, ["p _ c", (0, 2, 2, 3), True, "1 2/- | s r | r", LEAF])
        told = [write_paper(("within", 1, {LEAF: -1})), read_paper("behind _ | p _ c | p v c"), read_paper("within 0")]
        self.assertEqual(told, ["within 1\n0/0 | c | r = -1", BEHIND, ("within", 0, {})])


class TreeTest(TextTest):
    def test_there_and_back(self):
        for book in SAMPLES:
            for tree in made_trees(book, 4)[:50]:
                self.assertEqual((write_tree(tree), read_tree(" ".join(tree))), (" ".join(tree), tree))
        for words in (("_",), ("_", "_"), ("abcdefgh",), ("s", "s"), ("never", "stuck"), ("s",) * 2000):
            self.assertEqual(read_tree(write_tree(words)), words)
        self.assert_strict(read_tree, write_tree, "p abcdefgh _ c")

    def test_no_trees(self):
        odd = [(), ("",), ("s", ""), ("S",), ("abcdefghi",), ("s", 1), ["s"], "s", ("s ",), ("s t",), ("__",), ("_a",),
               (("s",),), (None,), ("a1",), ("|",), ("\n",)]
        fits = lambda value: isinstance(value, tuple) and value in (("c",), ("c", "c"), ("_",), ("_", "_"))
        for value in (*odd, *others(fits)):
            with self.subTest(value=value):
                self.assert_refused(InvalidTree, None, write_tree, value)

    def test_no_texts(self):
        odd = ["", " ", "s ", " s", "s  c", "s\nc", "S", "s1", "abcdefghi", "__", "s _a", "s,c", ("s",), ["s"], b"s"]
        fits = lambda value: value in ("_", "a b") or isinstance(value, str) and len(value) <= 8 and value.isalpha() and (
            value.islower())
        for value in (*odd, *others(fits)):
            with self.subTest(value=value):
                self.assert_refused(ParseError, None, read_tree, value)


class CoverTest(TextTest):
    def test_there_and_back(self):
        for book in SAMPLES:
            for tree in made_trees(book, 4)[:50]:
                try:
                    cover = greedy(book, tree)
                except Stuck:
                    continue
                self.assertEqual(read_cover(write_cover(cover)), cover)
        for numbers in ((0,), (11,), (11, 0, 11), tuple(range(12)), (3,) * 2000):
            self.assertEqual(read_cover(write_cover(numbers)), numbers)
        self.assert_strict(read_cover, write_cover, "0 11 2 10 3")

    def test_no_covers(self):
        odd = [(), (12,), (-1,), (True,), (False,), (0, None), ("0",), [0], "0", ((0,),), (10 ** 60,), (0, 1, 99), (0, 12)]
        fits = lambda value: isinstance(value, tuple) and value in ((0,), (0, 1), (0, 2, 2, 3)) and True not in map(
            lambda number: number is True, value)
        for value in (*odd, *others(fits)):
            with self.subTest(value=value):
                self.assert_refused(InvalidCover, None, write_cover, value)

    def test_no_texts(self):
        odd = ["", " ", "0 ", " 0", "0  1", "00", "01", "-0", "-1", "12", "83", "0\n1", "1.", "+1", "1_1", "0,1", "a",
               "9" * 60, "9" * 4000, 0, (0,), [0], None]
        for value in (*odd, *others(lambda value: value in ("0", "1"))):
            with self.subTest(value=value):
                self.assert_refused(ParseError, None, read_cover, value)


class BookTest(TextTest):
    def test_there_and_back(self):
        for book in SAMPLES:
            self.assertEqual(write_book(book), "\n".join(book.lines))
            self.assertEqual(read_book(write_book(book)), book)
        for book in (ADDS, RING):
            self.assert_strict_book(write_book(book), book)

    def assert_strict_book(self, text, book):
        for other in spoiled(text):
            lines = other.split("\n")
            with self.subTest(text=other):
                try:
                    right = Book.from_lines(*lines)
                except ParseError as error:
                    self.assert_refused(ParseError, error.number, read_book, other)
                except (InvalidBook, InvalidOperators) as error:
                    self.assert_refused(type(error), None, read_book, other)
                else:
                    self.assertEqual(read_book(other), right)
                    self.assertTrue(right == book or write_book(right) != text)

    def test_lines_in_any_order(self):
        lines = list(ADDS.lines)
        Random(3).shuffle(lines)
        rules = [line for line in lines if line.startswith("rule")]
        self.assertEqual(read_book("\n".join(lines)).lines[-4:], tuple(rules))

    def test_errors(self):
        text = write_book(STEPS)
        for index, line in enumerate(STEPS.lines):
            lines = list(STEPS.lines)
            lines[index] = line + " "
            self.assert_refused(ParseError, index, read_book, "\n".join(lines))
        self.assert_refused(ParseError, 7, read_book, text + "\n")
        self.assert_refused(ParseError, 0, read_book, "\n" + text)
        self.assert_refused(ParseError, 0, read_book, "")
        self.assert_refused(ParseError, 1, read_book, "goal r\ngoal r")
        self.assert_refused(InvalidOperators, None, read_book, "goal r")
        self.assert_refused(InvalidBook, None, read_book, "op c 0")
        self.assert_refused(InvalidBook, None, read_book, text + "\nrule r 1 s r")
        for value in others(lambda value: isinstance(value, str)):
            self.assert_refused(ParseError, None, read_book, value)
        for value in (*others(lambda value: isinstance(value, Book)), text, STEPS.lines):
            self.assert_refused(InvalidBook, None, write_book, value)


class StateTest(TextTest):
    def test_there_and_back(self):
        for book in SAMPLES:
            for careful in MODES:
                for state in Pairs(book, careful=careful):
                    text = write_state(state)
                    self.assertEqual(read_state(text), state)
                    (matched, ready), side, other = state
                    row = "/".join(" ".join(map(str, told)) if told else "-" for told in (matched, ready))
                    self.assertEqual(text, f"{row} | {' '.join(side)} | {' '.join(other)}")
        self.assert_strict(read_state, write_state, "1 2 10/- | s abcdefgh r | r")
        self.assert_strict(read_state, write_state, "-/0 | c | r")

    def test_bounds_of_numbers_and_names(self):
        names = ("a",) * 7
        for state in ((((), ()), names, names), ((tuple(range(84)), (83,)), ("c",), ("r",)), (((5,), (0, 83)), names, ("r",))):
            self.assertEqual(read_state(write_state(state)), state)
        odd = [
            (((84,), ()), ("c",), ("r",)), (((), (84,)), ("c",), ("r",)), (((-1,), ()), ("c",), ("r",)),
            (((1, 0), ()), ("c",), ("r",)), (((1, 1), ()), ("c",), ("r",)), (((), (3, 2)), ("c",), ("r",)),
            (((True,), ()), ("c",), ("r",)), (((0, True), ()), ("c",), ("r",)), (((), ()), (), ("r",)),
            (((), ()), ("c",), ()), (((), ()), ("a",) * 8, ("r",)), (((), ()), ("c",), ("a",) * 8),
            (((), ()), ("_",), ("r",)), (((), ()), ("C",), ("r",)), (((), ()), "c", ("r",)), (((), ()), ["c"], ("r",)),
            (((),), ("c",), ("r",)), (((), (), ()), ("c",), ("r",)), ([(), ()], ("c",), ("r",)),
            (([], ()), ("c",), ("r",)), (((), ()), ("c",)), (((), ()), ("c",), ("r",), ("r",)),
            [((), ()), ("c",), ("r",)], (None, ("c",), ("r",)), (((), ()), (1,), ("r",)), (((None,), ()), ("c",), ("r",)),
            ((((0,),), ()), ("c",), ("r",)), (((10 ** 60,), ()), ("c",), ("r",)),
        ]
        fits = lambda value: value == (((0,), (0,)), ("r",), ("r",)) and value[0][1] is not True
        for value in (*odd, *others(fits)):
            with self.subTest(value=value):
                self.assert_refused(InvalidState, None, write_state, value)

    def test_no_texts(self):
        odd = ["", " | | ", "0/0", "0/0 | c", "0/0 | c | r | r", "0/0|c|r", "0 /0 | c | r", "0/ 0 | c | r", "0/0  | c | r",
               "0/0 | c |  r", "0/0/0 | c | r", "0 | c | r", "/ | c | r", "0/ | c | r", "-/-/- | c | r", "--/0 | c | r",
               "- -/0 | c | r", "0 -/0 | c | r", "00/0 | c | r", "01/0 | c | r", "-0/0 | c | r", "-1/0 | c | r",
               "84/0 | c | r", "1 0/0 | c | r", "1 1/0 | c | r", "0/0 | _ | r", "0/0 | C | r", "0/0 | c | r ", "0/0 | | r",
               "0/0 |  | r", "0/0 | c | a a a a a a a a", "0/0 | c | abcdefghi", "0/0 | c | r\n", LEAF, [LEAF]]
        for value in (*odd, *everything()):
            with self.subTest(value=value):
                self.assert_refused(ParseError, None, read_state, value)
        self.assertEqual(read_state("83/0 | a a a a a a a | r"), (((83,), (0,)), ("a",) * 7, ("r",)))


class PaperTest(TextTest):
    def test_there_and_back(self):
        for book in SAMPLES:
            for careful in MODES:
                told = paper(book, careful=careful)
                again = read_paper(write_paper(told))
                self.assertEqual(again, told)
                self.assertIs(is_paper(book, again, careful=careful), True)
                if told[0] == "within":
                    self.assertEqual(list(again[2]), sorted(again[2]))
                    self.assertEqual(write_paper(told).split("\n")[0], f"within {told[1]}")
        for told in (WITHIN, BEHIND, ("within", 10 ** 60 - 1, {}), ("within", 0, {LEAF: 0}),
                     ("behind", ("c",), ("_", "_"), ("x",) * 900)):
            self.assertEqual(read_paper(write_paper(told)), told)
        self.assert_strict(read_paper, write_paper, "within 10\n0/0 | c | r = -1\n1 2/2 | s r | r = 20")
        self.assert_strict(read_paper, write_paper, "behind _ | p _ c | p v c")

    def test_ascending_by_states(self):
        states = sorted([LEAF, STATE, (((0,), ()), ("r",), ("c",)), (((10,), ()), ("c",), ("c",)),
                         (((2,), ()), ("c",), ("c",))])
        right = ("within", 3, {state: at for at, state in enumerate(states)})
        text = write_paper(right)
        back = {state: right[2][state] for state in reversed(states)}
        self.assertEqual((write_paper(("within", 3, back)), list(read_paper(text)[2])), (text, states))
        lines = text.split("\n")
        for at in range(1, len(lines) - 1):
            turned = lines[:at] + [lines[at + 1], lines[at]] + lines[at + 2:]
            self.assert_refused(ParseError, at + 1, read_paper, "\n".join(turned))
            self.assert_refused(ParseError, at + 1, read_paper, "\n".join(lines[:at + 1] + lines[at:]))

    def test_no_papers(self):
        odd = [
            ("within", 1), ("within", -1, {}), ("within", True, {}), ("within", 10 ** 60, {}), ("within", None, {}),
            ("within", 1, []), ("within", 1, ()), ("within", 1, {None: 1}), ("within", 1, {LEAF: True}),
            ("within", 1, {LEAF: None}), ("within", 1, {LEAF: 10 ** 60}), ("within", 1, {LEAF[:2]: 1}),
            ("within", 1, {(((True,), ()), ("c",), ("r",)): 1}), ("within", 1, {LEAF: 1, None: 1}), ("within", 1, {}, {}),
            ("within", "1", {}), ["within", 1, {}], ("Within", 1, {}), (None, 1, {}), ("behind",), BEHIND[:3],
            BEHIND + (("c",),), list(BEHIND), ("behind", ["_"], ("_",), ("c",)), ("behind", ("_",), (), ("c",)),
            ("behind", ("_",), ("_",), ("C",)), ("behind", "_", ("_",), ("c",)), ("behind", 1, {}), ("within", *BEHIND[1:]),
            (("behind",), *BEHIND[1:]), {}, "within 1",
        ]
        for value in (*odd, *everything()):
            with self.subTest(value=value):
                self.assert_refused(InvalidPaper, None, write_paper, value)

    def test_no_texts(self):
        for value in others(lambda value: isinstance(value, str)):
            self.assert_refused(ParseError, None, read_paper, value)
        firsts = ["", "within", "within ", "within -1", "within 01", "within -0", "within 1 ", "within  1", " within 1",
                  "Within 1", "within " + "9" * 61, "within 1.", "behind", "behind ", "behind _", "behind _ | _",
                  "behind _ | _ | c | c", "behind  _ | _ | c", "behind _ | _ | c ", "behind _|_|c", "behind _ | _ | C",
                  "behind _ |  | c", "_ | p _ c | p v c", "behind | _ | c", "ratio 1", "within one"]
        for first in firsts:
            for text in (first, first + "\n", first + "\n0/0 | c | r = 1"):
                self.assert_refused(ParseError, 0, read_paper, text)
        for value in (value for value in everything() if isinstance(value, str)):
            self.assert_refused(ParseError, 0, read_paper, value)
        good = "0/0 | c | r = 1"
        lines = ["", " ", "0/0 | c | r", "0/0 | c | r = ", "0/0 | c | r =1", "0/0 | c | r= 1", "0/0 | c | r = 01",
                 "0/0 | c | r = -0", "0/0 | c | r = --1", "0/0 | c | r = 1 ", "0/0 | c | r  = 1", "0/0 | c | r = +1",
                 "0/0 | c | r = " + "9" * 61, "0/0 | c | r = -" + "9" * 61, "0/0 | c | r = 1 = 1", "within 1", good + " ",
                 "0/0 | c = 1", "= 1", " = 1", good, "-/0 | c | r = 1"]
        for line in lines:
            self.assert_refused(ParseError, 2, read_paper, f"within 1\n{good}\n{line}")
            self.assert_refused(ParseError, 2, read_paper, f"within 1\n{good}\n{line}\n1/1 | c | r = 1")
            self.assert_refused(ParseError, 1, read_paper, f"behind _ | _ | c\n{line}")
        self.assert_refused(ParseError, 1, read_paper, "within 1\n")
        long = "9" * 60
        told = read_paper(f"within {long}\n0/0 | c | r = -{long}")
        self.assertEqual(told, ("within", 10 ** 60 - 1, {LEAF: 1 - 10 ** 60}))


class SharedTest(TextTest):
    def test_nothing_is_shared(self):
        told = {LEAF: 1}
        text = write_paper(("within", 1, told))
        self.assertEqual(told, {LEAF: 1})
        again = read_paper(text)
        again[2].clear()
        self.assertEqual(read_paper(text), ("within", 1, {LEAF: 1}))
        limits = bounds(STEPS)
        write_paper(("within", 9, limits))
        self.assertEqual((limits, read_tree(write_tree(SIX)), type(read_cover("1"))), (bounds(STEPS), SIX, tuple))
        self.assertEqual(read_book(write_book(FREE)).lines, FREE.lines)


if __name__ == "__main__":
    unittest.main()
