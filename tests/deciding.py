"""Slow and plain ways to what is true of all trees at once: by moves, and by covers of single trees."""

from math import gcd
from random import Random

from munchbehind.base.books import Book
from munchbehind.decide.pairs import Pairs
from tests.oracles import EXAMPLES, Truth, made_trees, random_book

MODES = (False, True)
HOLE = ("_",)
SIX = ("s",) * 6 + ("c",)
FREE = Book.from_lines("op c 0", "op s 1", "goal r", "rule r 1 s s r", "rule r 0 s r", "rule r 0 c")
NO_TREES = Book.from_lines("op s 1", "goal r", "rule r 1 s r")
NO_RULES = Book.from_lines("op c 0", "goal r")
# Each p doubles what the trees below it are behind.
PILED = Book.from_lines(
    "op c 0", "op s 1", "op p 2", "goal a", "rule d 1 s c", "rule d 0 s d", "rule d 0 c", "rule b 0 p d d",
    "rule a 0 p b b",
)


def piled_high(leaf, *more):
    """A book whose worst trees have 1024 leaves, each of them behind by 1."""
    levels = ("f", "e", "d", "g", "b", "a")
    rules = [f"rule {high} 0 p p {low} {low} p {low} {low}" for low, high in zip(levels, levels[1:])]
    return Book.from_lines(
        "op c 0", "op s 1", "op p 2", "goal a", f"rule f 1 {leaf}", "rule f 0 s f", "rule f 0 c", *rules, *more,
    )


SAMPLES = (*EXAMPLES, FREE, NO_TREES, NO_RULES, PILED, *[random_book(seed, 8, 5, 3) for seed in range(30)])


def greatest_sums(pairs, weigh):
    """The greatest sums along moves by states, made of those of fewer levels; None if they grow without end."""
    sums = {}
    for _ in range(len(pairs) + 2):
        before = dict(sums)
        for state in pairs.states:
            told = [
                weigh(price, other) + sum(before[low] for low in lows)
                for _, lows, price, other in pairs.moves(state) if all(low in before for low in lows)
            ]
            if told:
                sums[state] = max(told)
        if sums == before:
            return {state: sums[state] for state in pairs.states}
    return None


def keeps(pairs, told, weigh):
    """Whether bounds are kept by all moves, by the words of the document."""
    return set(told) == set(pairs.states) and all(
        weigh(price, other) + sum(told[low] for low in lows) <= told[state]
        for state in pairs.states for _, lows, price, other in pairs.moves(state)
    )


def excesses(book, trees, careful):
    """The pairs of a tree and its excess for those that the greedy selector covers."""
    truth = Truth(book)
    found = []
    for tree in trees:
        cover, _ = truth.greedy(tree, book.goal, careful)
        if cover is not None:
            found.append((tree, truth.price(cover) - min(truth.price(told) for told in truth.covers(tree, book.goal))))
    return found


def loop_sums(truth, outer, loop, inner, careful):
    """The triples (side, greedy price, other price) of the loop of a pump for all covers; None if it is no pump."""
    ops, goal = truth.book.operators, truth.book.goal
    lower = ops.filled(loop, inner)
    tree = ops.filled(outer, lower)
    if truth.kind(lower) != truth.kind(inner):
        return None
    cover, _ = truth.greedy(tree, goal, careful)
    if cover is None:
        return None
    above = outer.index("_")
    low = above + loop.index("_")
    places = [*range(above, low), *range(low + len(inner), above + len(lower))]
    mine, prices = truth.sides(tree, cover, goal)
    if mine[above] != mine[low]:
        return None
    found = set()
    for other in truth.covers(tree, goal):
        sides, costs = truth.sides(tree, other, goal)
        if sides[above] == sides[low]:
            found.add((sides[above], sum(prices[at] for at in places), sum(costs[at] for at in places)))
    return found


def cuts(book, tree):
    """All ways to cut a tree at two places, one above the other or the same one."""
    ops = book.operators
    for above in range(len(tree)):
        outer, rest = ops.cut(tree, above)
        for low in range(len(rest)):
            yield (outer, *ops.cut(rest, low))


def small_cuts(book, places=6, most=300, many=120):
    """Some ways to cut small trees at two different places, always the same ones."""
    found = [cut for tree in made_trees(book, places)[:most] for cut in cuts(book, tree) if len(cut[1]) > 1]
    return Random(7).sample(found, min(many, len(found)))


def lowest(above, below):
    """A fraction in lowest terms."""
    return above // gcd(above, below), below // gcd(above, below)


def all_pairs(books=SAMPLES):
    """The pair states of books in both modes."""
    return [(book, careful, Pairs(book, careful=careful)) for book in books for careful in MODES]
