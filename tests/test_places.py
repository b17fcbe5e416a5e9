"""Stage 2: trees, contexts and their places (0.4, 0.7, 2.1)."""

import unittest
from copy import deepcopy

from munchbehind.base.trees import Operators
from munchbehind.errors import InvalidNumber, InvalidTree, TooMany
from tests.timed import TimedTest
from tests.values import all_contexts, all_trees, ends, everything, is_plain_integer, others

ARITIES = {"c": 0, "p": 2, "s": 1, "v": 0}
OPS = Operators(ARITIES)
SMALL = [tree for size in range(1, 6) for tree in all_trees(ARITIES, size)]
CONTEXTS = [context for size in range(1, 5) for context in all_contexts(ARITIES, size)]
TREE = ("p", "p", "v", "c", "v")

NO_TREES = (
    (), ("p",), ("s",), ("c", "c"), ("c", "v"), ("p", "c"), ("p", "c", "c", "c"), ("s", "c", "c"), ("s", "s"),
    ("c", "s", "c"), ("_",), ("p", "_", "c"), ("s", "_"), ("x",), ("p", "c", "x"), ("s", "C"), ("s", "c\n"),
    ("s", ""), ("s", 0), ("s", None), ("s", True), ("s", ("c",)), ("s", ["c"]), ("s", {}), (["c"],), ({},), ["c"],
    ["s", "c"], "c", "sc", "s c", {"c": 0}, (("s", "c"),), (("c",),), ("op c 0",),
)


def row(many):
    """A row of unary operators with so many places."""
    return ("s",) * (many - 1) + ("c",)


def left_comb(many):
    """A comb of binary operators with so many places, an odd number, whose left subtrees are great."""
    half = many // 2
    return ("p",) * half + ("c",) * (half + 1)


def right_comb(many):
    """A comb likewise, whose right subtrees are great."""
    return ("p", "c") * (many // 2) + ("c",)


def subtree(tree, place):
    return tree[place:ends(tree, ARITIES, place)]


def children(tree, place):
    places = []
    at = place + 1
    for _ in range(ARITIES[tree[place]]):
        places.append(at)
        at = ends(tree, ARITIES, at)
    return tuple(places)


def above(tree, place):
    return tuple(at for at in range(place) if ends(tree, ARITIES, at) > place)


def is_no_place(tree):
    return others(lambda value: is_plain_integer(value) and 0 <= value < len(tree))


class PlacesTest(TimedTest):
    def assert_invalid_tree(self, function, *rest):
        with self.assertRaises(InvalidTree):
            function(*rest)

    def assert_invalid_number(self, function, number, *rest):
        with self.assertRaises(InvalidNumber) as caught:
            function(*rest)
        self.assertIs(caught.exception.value, number)

    def assert_too_many(self, function, *rest):
        with self.assertRaises(TooMany) as caught:
            function(*rest)
        self.assertEqual(caught.exception.limit, 5000)


class JudgedTest(PlacesTest):
    def test_trees(self):
        for tree in SMALL:
            self.assertIs(OPS.is_tree(tree), True)
            self.assertIs(OPS.is_context(tree), False)
        for value in (*NO_TREES, *others(lambda value: value == ("c",))):
            with self.subTest(value=value):
                self.assertIs(OPS.is_tree(value), False)

    def test_trees_are_those_among_all_rows_of_words(self):
        ops = Operators({"c": 0, "p": 2, "s": 1})
        for size in range(1, 7):
            found = all_trees(ops.arities, size)
            rows = [()]
            for _ in range(size):
                rows = [words + (name,) for words in rows for name in ("c", "p", "s")]
            self.assertEqual([words for words in rows if ops.is_tree(words)], found)

    def test_contexts(self):
        for context in CONTEXTS:
            self.assertIs(OPS.is_context(context), True)
            self.assertIs(OPS.is_tree(context), False)
        self.assertIs(OPS.is_context(("_",)), True)
        wrong = [("_", "_"), ("p", "_", "_"), ("s", "_", "_"), ("_", "c"), ("p", "_"), ("c", "_"), ("p", "_", "x")]
        wrong += [["_"], "_", (["_"],)]
        wrong += [("p", "_", ["c"]), ("p", "_", None), ("p", "_", 0), ("_", "s", "c"), ("s",), ("__",), ("s", "_\n")]
        for value in (*wrong, *others(lambda value: value == ("_",))):
            with self.subTest(value=value):
                self.assertIs(OPS.is_context(value), False)

    def test_operators_of_others_make_none(self):
        other = Operators({"c": 0, "s": 2})
        self.assertIs(other.is_tree(("s", "c", "c")), True)
        self.assertIs(other.is_tree(("s", "c")), False)
        self.assertIs(other.is_tree(TREE), False)
        self.assertIs(other.is_context(("p", "_", "c")), False)
        self.assertIs(Operators({"p": 2}).is_context(("_",)), True)
        self.assertIs(Operators({"p": 2}).is_tree(("p", "p", "p")), False)

    def test_five_thousand_places(self):
        for tree in (row(5000), left_comb(4999), right_comb(4999), ("s",) + left_comb(4999)):
            self.assertIs(OPS.is_tree(tree), True)
        for tree in (row(5001), left_comb(5001), right_comb(5001), row(20000)):
            self.assertIs(OPS.is_tree(tree), False)
        comb = ("p",) * 2499 + ("_",) + ("c",) * 2499
        for context in (("s",) * 4999 + ("_",), ("p", "c") * 2499 + ("_",), ("s",) + comb):
            self.assertIs(OPS.is_context(context), True)
        for context in (("s",) * 5000 + ("_",), ("p", "c") * 2500 + ("_",), ("p",) * 2500 + ("_",) + ("c",) * 2500):
            self.assertIs(OPS.is_context(context), False)

    def test_values_are_not_changed(self):
        for value in everything():
            before = deepcopy(value) if isinstance(value, (tuple, list, dict)) else value
            OPS.is_tree(value)
            OPS.is_context(value)
            if isinstance(value, (tuple, list, dict)) and "Operators" not in repr(value):
                self.assertEqual(value, before)


class ReadTest(PlacesTest):
    methods = (OPS.end, OPS.subtree, OPS.children, OPS.above, OPS.cut)

    def test_examples(self):
        ops = Operators({"c": 0, "v": 0, "p": 2})
        self.assertEqual([ops.constants, ops.end(TREE, 1), ops.subtree(TREE, 1)], [("c", "v"), 4, ("p", "v", "c")])
        self.assertEqual([ops.children(TREE, 0), ops.above(TREE, 3), ops.levels(TREE)], [(1, 4), (0, 1), 3])
        self.assertEqual(ops.cut(TREE, 1), (("p", "_", "v"), ("p", "v", "c")))
        self.assertEqual(ops.replaced(TREE, 4, ("c",)), ("p", "p", "v", "c", "c"))
        self.assertEqual(ops.filled(("p", "_", "c"), ("p", "_", "c"), ("v",)), ("p", "p", "v", "c", "c"))
        self.assertIs(ops.is_context(("_",)), True)

    def test_all_places_of_small_trees(self):
        for tree in SMALL:
            for place in range(len(tree)):
                end = ends(tree, ARITIES, place)
                self.assertEqual(OPS.end(tree, place), end)
                self.assertEqual(OPS.subtree(tree, place), tree[place:end])
                self.assertEqual(OPS.children(tree, place), children(tree, place))
                self.assertEqual(OPS.above(tree, place), above(tree, place))
                self.assertEqual(OPS.cut(tree, place), (tree[:place] + ("_",) + tree[end:], tree[place:end]))
            self.assertEqual(OPS.levels(tree), 1 + max(len(above(tree, place)) for place in range(len(tree))))

    def test_results_are_tuples(self):
        for told in (OPS.subtree(TREE, 1), OPS.children(TREE, 0), OPS.children(TREE, 2), OPS.above(TREE, 3)):
            self.assertIs(type(told), tuple)
        self.assertIs(type(OPS.cut(TREE, 0)), tuple)
        self.assertEqual((OPS.children(TREE, 2), OPS.above(TREE, 0), OPS.cut(TREE, 0)), ((), (), (("_",), TREE)))

    def test_no_trees_are_refused_first(self):
        for value in NO_TREES:
            for method in self.methods:
                for place in (0, -1, None, "0", 10 ** 60):
                    with self.subTest(method.__name__, value=value, place=place):
                        self.assert_invalid_tree(method, value, place)
            self.assert_invalid_tree(OPS.levels, value)

    def test_odd_values_are_no_trees(self):
        for value in others(lambda value: value == ("c",)):
            for method in self.methods:
                with self.subTest(method.__name__, value=value):
                    self.assert_invalid_tree(method, value, 0)
            self.assert_invalid_tree(OPS.levels, value)

    def test_no_places_are_refused_and_kept(self):
        for tree in (("c",), TREE, row(10)):
            for value in (*is_no_place(tree), len(tree), -1, -len(tree), True, False):
                for method in self.methods:
                    with self.subTest(method.__name__, tree=tree, value=value):
                        self.assert_invalid_number(method, value, tree, value)

    def test_one_more_than_five_thousand_places(self):
        for tree in (row(5001), left_comb(5001), right_comb(5001)):
            for method in self.methods:
                self.assert_invalid_tree(method, tree, 0)
                self.assert_invalid_tree(method, tree, -1)
            self.assert_invalid_tree(OPS.levels, tree)

    def test_rows_of_five_thousand_places(self):
        tree = row(5000)
        self.assertEqual((OPS.end(tree, 0), OPS.end(tree, 4999), OPS.levels(tree)), (5000, 5000, 5000))
        self.assertEqual(OPS.subtree(tree, 2500), row(2500))
        self.assertEqual((OPS.children(tree, 4998), OPS.children(tree, 4999)), ((4999,), ()))
        self.assertEqual(OPS.above(tree, 4999), tuple(range(4999)))
        self.assertEqual(OPS.cut(tree, 4998), (("s",) * 4998 + ("_",), ("s", "c")))
        self.assert_invalid_number(OPS.end, 5000, tree, 5000)

    def test_left_combs(self):
        tree = left_comb(4999)
        self.assertEqual([OPS.end(tree, place) for place in (0, 1, 2499)], [4999, 4998, 2500])
        self.assertEqual(OPS.levels(tree), 2500)
        self.assertEqual((OPS.children(tree, 0), OPS.children(tree, 2498)), ((1, 4998), (2499, 2500)))
        self.assertEqual(OPS.above(tree, 2499), tuple(range(2499)))
        self.assertEqual(OPS.above(tree, 4998), (0,))
        self.assertEqual(OPS.subtree(tree, 499), left_comb(4001))
        self.assertEqual(OPS.cut(tree, 4998), (tree[:4998] + ("_",), ("c",)))

    def test_right_combs(self):
        tree = right_comb(4999)
        self.assertEqual((OPS.end(tree, 0), OPS.end(tree, 1), OPS.levels(tree)), (4999, 2, 2500))
        self.assertEqual((OPS.children(tree, 0), OPS.children(tree, 4996)), ((1, 2), (4997, 4998)))
        self.assertEqual(OPS.above(tree, 4998), tuple(range(0, 4998, 2)))
        self.assertEqual(OPS.subtree(tree, 998), right_comb(4001))

    def test_each_place_of_a_deep_tree(self):
        tree = ("s", "p", "c") * 100 + ("v",)
        for place in range(0, len(tree), 7):
            self.assertEqual(OPS.end(tree, place), ends(tree, ARITIES, place))
            self.assertEqual(OPS.above(tree, place), above(tree, place))
            self.assertEqual(OPS.children(tree, place), children(tree, place))


class SpeedTest(PlacesTest):
    seconds = 60

    def test_hundreds_of_calls_with_deep_trees(self):
        for tree in (row(4999), left_comb(4999), right_comb(4999)):
            for _ in range(100):
                for place in (0, 1, 2499, 4998):
                    for method in (OPS.end, OPS.subtree, OPS.children, OPS.above, OPS.cut):
                        method(tree, place)
                    OPS.replaced(tree, place, ("c",))
                OPS.levels(tree)


class ReplacedTest(PlacesTest):
    def test_small_trees(self):
        for tree in SMALL[:60]:
            for place in range(len(tree)):
                for other in (("c",), ("s", "v"), TREE):
                    told = OPS.replaced(tree, place, other)
                    self.assertEqual(told, tree[:place] + other + tree[ends(tree, ARITIES, place):])
                    self.assertIs(OPS.is_tree(told), True)

    def test_errors_come_in_the_order_of_the_parameters(self):
        for value in NO_TREES:
            with self.subTest(value=value):
                self.assert_invalid_tree(OPS.replaced, value, 0, ("c",))
                self.assert_invalid_tree(OPS.replaced, value, -1, value)
                self.assert_invalid_tree(OPS.replaced, TREE, 0, value)
                self.assert_invalid_number(OPS.replaced, 5, TREE, 5, value)
        for value in is_no_place(TREE):
            with self.subTest(place=value):
                self.assert_invalid_number(OPS.replaced, value, TREE, value, ("c",))
                self.assert_invalid_number(OPS.replaced, value, TREE, value, None)

    def test_odd_values_are_no_other_trees(self):
        for value in others(lambda value: value == ("c",)):
            with self.subTest(value=value):
                self.assert_invalid_tree(OPS.replaced, value, 0, ("c",))
                self.assert_invalid_tree(OPS.replaced, TREE, 0, value)

    def test_more_than_five_thousand_places(self):
        self.assertEqual(OPS.replaced(row(2500), 2499, row(2501)), row(5000))
        self.assert_too_many(OPS.replaced, row(2500), 2499, row(2502))
        self.assertEqual(OPS.replaced(row(5000), 0, row(5000)), row(5000))
        self.assertEqual(OPS.replaced(row(5000), 4999, ("v",)), ("s",) * 4999 + ("v",))
        self.assert_too_many(OPS.replaced, row(5000), 4999, ("s", "v"))
        self.assert_too_many(OPS.replaced, right_comb(4999), 4998, ("p", "c", "c"))
        self.assertEqual(len(OPS.replaced(right_comb(4999), 1, ("s", "c"))), 5000)

    def test_too_many_comes_last(self):
        self.assert_invalid_number(OPS.replaced, 5000, row(5000), 5000, row(5000))
        self.assert_invalid_tree(OPS.replaced, row(5000), 4999, row(5001))
        self.assert_invalid_tree(OPS.replaced, row(5001), 5000, row(5000))
        self.assert_invalid_tree(OPS.replaced, row(5000), 4999, row(5000)[1:-1])

    def test_cut_leads_back(self):
        for tree in SMALL[:60]:
            for place in range(len(tree)):
                context, inner = OPS.cut(tree, place)
                self.assertIs(OPS.is_context(context), True)
                self.assertEqual(OPS.filled(context, inner), tree)
                self.assertEqual(OPS.filled(context, ("v",)), OPS.replaced(tree, place, ("v",)))


class FilledTest(PlacesTest):
    def fill(self, context, other):
        hole = context.index("_")
        return context[:hole] + other + context[hole + 1:]

    def test_with_nothing_else(self):
        for context in CONTEXTS:
            self.assertEqual(OPS.filled(context), context)
        self.assertEqual(OPS.filled(("_",)), ("_",))

    def test_with_one_tree_or_context(self):
        for context in CONTEXTS:
            for other in SMALL[:20] + CONTEXTS[:20]:
                self.assertEqual(OPS.filled(context, other), self.fill(context, other))

    def test_with_two(self):
        for context in CONTEXTS[:12]:
            for middle in CONTEXTS[:12]:
                for other in SMALL[:8] + CONTEXTS[:8]:
                    told = OPS.filled(context, middle, other)
                    self.assertEqual(told, self.fill(self.fill(context, middle), other))
                    self.assertIs(type(told), tuple)

    def test_with_many(self):
        parts = CONTEXTS[:40] * 3
        told = ("_",)
        for part in parts:
            told = self.fill(told, part)
        self.assertEqual(OPS.filled(*parts), told)
        self.assertEqual(OPS.filled(*parts, TREE), self.fill(told, TREE))
        self.assertIs(OPS.is_context(OPS.filled(*parts)), True)

    def test_both_sides_of_a_hole(self):
        told = OPS.filled(("p", "_", "c"), ("p", "v", "_"), ("p", "_", "v"), ("s", "c"))
        self.assertEqual(told, ("p", "p", "v", "p", "s", "c", "v", "c"))

    def test_all_but_the_last_one_are_contexts(self):
        self.assert_invalid_tree(OPS.filled, ("c",))
        self.assert_invalid_tree(OPS.filled, ("c",), ("c",))
        self.assert_invalid_tree(OPS.filled, ("_",), ("c",), ("c",))
        self.assert_invalid_tree(OPS.filled, ("_",), ("c",), ("_",))
        self.assert_invalid_tree(OPS.filled, ("c",), ("_",))

    def test_wrong_values_at_each_place(self):
        wrong = others(lambda value: value in (("c",), ("_",)))
        for value in (*wrong, ("p", "_", "_"), ("p", "_"), ("s", "x"), ("_", "_")):
            with self.subTest(value=value):
                self.assert_invalid_tree(OPS.filled, value)
                self.assert_invalid_tree(OPS.filled, value, ("c",))
                self.assert_invalid_tree(OPS.filled, ("_",), value)
                self.assert_invalid_tree(OPS.filled, ("s", "_"), value, ("c",))
                self.assert_invalid_tree(OPS.filled, ("s", "_"), ("_",), value)

    def test_five_thousand_places(self):
        half = ("s",) * 2500 + ("_",)
        self.assertEqual(OPS.filled(half, row(2500)), row(5000))
        self.assert_too_many(OPS.filled, half, row(2501))
        self.assertEqual(len(OPS.filled(half, ("s",) * 2499 + ("_",))), 5000)
        self.assert_too_many(OPS.filled, half, half)
        self.assertEqual(OPS.filled(("_",), row(5000)), row(5000))
        self.assertEqual(OPS.filled(("s",) * 4999 + ("_",), ("c",)), row(5000))
        self.assertEqual(OPS.filled(("s",) * 4999 + ("_",)), ("s",) * 4999 + ("_",))
        self.assert_too_many(OPS.filled, ("s",) * 4999 + ("_",), ("s", "c"))

    def test_too_many_comes_last(self):
        half = ("s",) * 2500 + ("_",)
        self.assert_invalid_tree(OPS.filled, half, half, half, ("x",))
        self.assert_invalid_tree(OPS.filled, half, row(2501), half)
        self.assert_invalid_tree(OPS.filled, half, half, row(5001))
        self.assert_invalid_tree(OPS.filled, ("s",) * 5000 + ("_",), ("c",))
        self.assert_invalid_tree(OPS.filled, ("s",) * 5000 + ("_",))
        self.assert_invalid_tree(OPS.filled, ("_",), ("s",) * 5000 + ("_",))
        self.assert_invalid_tree(OPS.filled, ("_",), row(5001))
        self.assert_invalid_tree(OPS.filled, half, half, None)

    def test_thousands_of_contexts(self):
        self.assertEqual(OPS.filled(*[("s", "_")] * 4999, ("c",)), row(5000))
        self.assertEqual(OPS.filled(*[("p", "_", "c")] * 2499, ("c",)), left_comb(4999))
        self.assertEqual(OPS.filled(*[("p", "c", "_")] * 2499, ("c",)), right_comb(4999))
        self.assertEqual(OPS.filled(*[("_",)] * 20000, ("c",)), ("c",))
        self.assert_too_many(OPS.filled, *[("s", "_")] * 5000, ("c",))
        self.assert_too_many(OPS.filled, *[("p", "_", "c")] * 2500, ("c",))


if __name__ == "__main__":
    unittest.main()
