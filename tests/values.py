"""Values of all kinds that may be passed, and slow and plain ways to the right answers."""

from itertools import product

from munchbehind.base.books import Book
from munchbehind.base.trees import Operators
from munchbehind.decide.pairs import Pairs
from munchbehind.decide.pumps import Pump
from munchbehind.errors import InvalidNumber, ParseError
from munchbehind.match.kinds import Kinds
from munchbehind.text.shell import Shell
from munchbehind.use.bench import Bench

INTEGERS = (0, 1, 2, -1, -7, 8, 199, 200, 201, 5000, 10 ** 60 - 1, 1 - 10 ** 60)
LONG_INTEGERS = (10 ** 60, -(10 ** 60), 10 ** 99, 1 - 10 ** 100)
NAMES = ("a", "c", "s", "zz", "goal", "op", "abcdefgh")
STRINGS = (
    "", "abcdefghi", "A", "aB", "_", "add_", "a1", "1", "0", "-1", "a b", " a", "a ", "a\n", "\n", "a.b",
    "x" * 4000, "op a 0", "None", "(", "~",
)


def nested():
    """Tuples, lists and dicts, new ones at each call."""
    deep = ["c"]
    for _ in range(3):
        deep = [{"c": deep}]
    return [
        (), ("c",), ("c", "c"), ("_",), (0,), (None,), ("c", 1), ((("c",),),), [], ["c"], [1, 2], {}, {"c": 0},
        {1: 2}, {None: ()}, {("c",): ["c"]}, ("p", ["c"], {}), deep, ({"a": [()]},), (True,), (0, 1),
        ((), ()), ((0,), (0,)), ((0,), (True,)), (((0,), (0,)), ("r",), ("r",)), ("never", ()), ("stuck", ("c",)),
        ("r", 0, ("c",)), (("r", 0, ("c",)),), (0, 2, 2, 3), ("_", "_"), (((0,), (0,)), ["r"], {}), ([0], [0]),
    ]


def objects():
    """Objects of the package."""
    book = Book.from_lines("op c 0", "op s 1", "goal r", "rule r 1 s r", "rule r 0 c")
    return [
        Operators({"c": 0}), Operators({"c": 0, "p": 2, "s": 1}), ParseError(0), InvalidNumber(None), book, Kinds(book),
        Pairs(book), Pump(book, ("_",), ("s", "_"), ("s", "c")), Bench(book), Shell("\n".join(book.lines)),
    ]


def everything():
    """Values of all kinds, each kind with ordinary ones and with odd ones."""
    plain = [None, True, False, *INTEGERS, *LONG_INTEGERS, *NAMES, *STRINGS]
    return plain + nested() + objects()


def others(fits):
    """All values but those that fit."""
    return [value for value in everything() if not fits(value)]


def is_plain_integer(value):
    return type(value) is int and -(10 ** 60) < value < 10 ** 60


def ends(words, arities, start):
    """The index behind the tree that begins there, None if there is none: one call for each place."""
    if start >= len(words) or words[start] not in arities:
        return None
    at = start + 1
    for _ in range(arities[words[start]]):
        at = ends(words, arities, at)
        if at is None:
            return None
    return at


def all_trees(arities, size):
    """All trees of a size, found among all rows of words."""
    return sorted(row for row in product(sorted(arities), repeat=size) if ends(row, arities, 0) == size)


def all_contexts(arities, size):
    """All contexts of a size, found likewise."""
    return [row for row in all_trees({**arities, "_": 0}, size) if row.count("_") == 1]
