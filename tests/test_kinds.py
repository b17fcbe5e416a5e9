"""Stage 4: where patterns match, and the kinds of trees (0.2, 0.4, 0.5, 0.9, 0.12)."""

import unittest

from munchbehind.base.books import Book
from munchbehind.base.trees import Operators
from munchbehind.errors import (
    InvalidBook, InvalidKind, InvalidNumber, InvalidOperation, InvalidTree, TooMany, UnknownName,
)
from munchbehind.match import kinds as module
from munchbehind.match.kinds import Kinds, is_kind_form, leaves_at, matching
from tests.oracles import (
    ADDS, EXAMPLES, LOADS, RING, SIXTY, SIXTY_ONE, STEPS, Truth, made_trees, random_book, small_trees,
)
from tests.refused import RefusedTest, wrong_values
from tests.values import everything, is_plain_integer, others

EMPTY = Book.from_lines("op c 0", "op p 2", "op s 1", "goal r")
DEEP = Book.from_lines(
    "op c 0", "op v 0", "op p 2", "op s 1", "goal r", "rule r 1 p p r c a", "rule a 0 s v", "rule r 0 a", "rule a 1 r",
    "rule r 2 s s r", "rule b 3 p b c", "rule b 0 v", "rule r 4 s b",
)
ENDLESS = Book.from_lines("op s 1", "op p 2", "goal r", "rule r 1 s r", "rule r 0 p r r")
SAMPLES = (*EXAMPLES, EMPTY, DEEP, *[random_book(seed, 9, 6, 3) for seed in range(12)])
NO_BOOKS = others(lambda value: isinstance(value, Book))
ROW = ("s",) * 4999 + ("c",)
COMB = ("p",) * 2499 + ("c",) * 2500
RIGHT = ("p", "c") * 2499 + ("c",)


class LeavesTest(RefusedTest):
    def test_examples(self):
        pattern = ("p", "r", "c")
        self.assertEqual(leaves_at(ADDS, pattern, ("p", "p", "v", "v", "c"), 0), (("r", 1),))
        self.assertIs(leaves_at(ADDS, pattern, ("p", "v", "v"), 0), None)
        self.assertEqual(matching(LOADS, ("s", "v"), 0), (0, 1, 4))

    def test_all_places_of_small_trees(self):
        for book in SAMPLES:
            truth = Truth(book)
            patterns = {*truth.parts, *[rule[2] for rule in book.rules]}
            for tree in made_trees(book, 5)[:120]:
                for place in range(len(tree)):
                    for pattern in patterns:
                        right = truth.leaves(pattern, tree, place)
                        told = leaves_at(book, pattern, tree, place)
                        self.assertEqual(told, None if right is None else tuple(right))
                    right = [at for at, rule in enumerate(book.rules) if truth.leaves(rule[2], tree, place) is not None]
                    self.assertEqual(matching(book, tree, place), tuple(right))

    def test_parts_and_chain_rules_are_patterns(self):
        self.assertEqual(leaves_at(DEEP, ("p", "r", "c"), ("p", "p", "v", "c", "v"), 1), (("r", 2),))
        self.assertEqual(leaves_at(DEEP, ("c",), ("p", "v", "c"), 2), ())
        self.assertIs(leaves_at(DEEP, ("c",), ("p", "v", "c"), 1), None)
        self.assertEqual(leaves_at(DEEP, ("a",), ("p", "v", "c"), 1), (("a", 1),))
        tree = ("p", "p", "s", "v", "c", "s", "v")
        self.assertEqual(leaves_at(DEEP, ("p", "p", "r", "c", "a"), tree, 0), (("r", 2), ("a", 5)))
        self.assertEqual(matching(DEEP, tree, 0), (0, 2, 3))
        self.assertEqual(matching(EMPTY, ("c",), 0), ())

    def test_patterns_of_other_books(self):
        for pattern in (("v",), ("s", "v"), ("s", "s", "r"), ("r",), ("a",), ("p", "c", "r"), ("p", "r"), ("c", "n"),
                        ()):
            self.assert_refused(InvalidOperation, None, leaves_at, RING, pattern, ("c",), 0)
        self.assert_refused(InvalidOperation, None, leaves_at, ADDS, ("p", "c", "r"), ("c",), 0)
        self.assert_refused(InvalidOperation, None, leaves_at, LOADS, ("r",), ("c",), 0)
        for value in (*others(lambda value: value == ("c",)), ["c"], "c", ("c", "c")):
            with self.subTest(value=value):
                self.assert_refused(InvalidOperation, None, leaves_at, STEPS, value, ("c",), 0)

    def test_errors_in_their_order(self):
        books = wrong_values(InvalidBook, None, "STEPS", STEPS.lines, Operators({"c": 0}))
        patterns = wrong_values(InvalidOperation, ("s", "c"), None, ["c"])
        trees = wrong_values(InvalidTree, ("c", "c"), (), None, ["c"], ("s", "_"))
        places = wrong_values(InvalidNumber, 2, -1, True, None, "0")
        self.assert_order(leaves_at, (STEPS, books), (("s", "r"), patterns), (("s", "c"), trees), (1, places))
        self.assert_order(matching, (STEPS, books), (("s", "c"), trees), (1, places))

    def test_other_values(self):
        for value in NO_BOOKS:
            self.assert_refused(InvalidBook, None, leaves_at, value, ("c",), ("c",), 0)
            self.assert_refused(InvalidBook, None, matching, value, ("c",), 0)
        for value in others(lambda value: value == ("c",) or value == ("s", "c")):
            self.assert_refused(InvalidTree, None, leaves_at, STEPS, ("c",), value, 0)
            self.assert_refused(InvalidTree, None, matching, STEPS, value, 0)
        for value in others(lambda value: is_plain_integer(value) and 0 <= value < 2):
            self.assert_refused(InvalidNumber, value, leaves_at, STEPS, ("c",), ("s", "c"), value)
            self.assert_refused(InvalidNumber, value, matching, STEPS, ("s", "c"), value)

    def test_five_thousand_places(self):
        self.assertEqual(leaves_at(STEPS, ("s", "s", "r"), ROW, 4997), (("r", 4999),))
        self.assertIs(leaves_at(STEPS, ("s", "s", "r"), ROW, 4998), None)
        self.assertEqual(leaves_at(ADDS, ("p", "r", "c"), COMB, 0), (("r", 1),))
        self.assertEqual(leaves_at(ADDS, ("p", "r", "r"), COMB, 0), (("r", 1), ("r", 4998)))
        self.assertEqual(leaves_at(ADDS, ("p", "r", "r"), RIGHT, 0), (("r", 1), ("r", 2)))
        self.assertEqual(matching(ADDS, RIGHT, 4996), (0, 1))
        self.assert_refused(InvalidTree, None, matching, STEPS, ("s",) + ROW, 0)


class FormTest(RefusedTest):
    def test_forms(self):
        good = [((), ()), ((0,), ()), ((0,), (0,)), ((0, 1, 2, 3, 4), (4,)), ((1, 3), (1, 3)), ((4,), ())]
        for value in good:
            self.assertIs(is_kind_form(STEPS, value), True)
        bad = [((0,), (1,)), ((), (0,)), ((1, 0), ()), ((0, 0), ()), ((0, 1), (1, 0)), ((5,), ()), ((-1,), ()), ((0,),)]
        bad += [((0,), (0,), ()), [(0,), (0,)], ([0], [0]), ((0,), [0]), ([0], (0,)), ((False,), ()), ((0,), (False,))]
        bad += [((0, True), (1,)), ((0, 1), (True,)), (0, 0), ((0,), None), (None, None), ((0,), 0), ((None,), ())]
        bad += [((0, 1), (1, 1)), (("0",), ()), ((10 ** 60,), ()), ((0, 1, 2, 3, 4, 5), ()), (((0,),), ()),
                ((0, "1"), ())]
        for value in bad:
            with self.subTest(value=value):
                self.assertIs(is_kind_form(STEPS, value), False)

    def test_every_value_is_judged(self):
        for value in everything():
            with self.subTest(value=value):
                self.assertIs(is_kind_form(STEPS, value),
                              value in (((), ()), ((0,), (0,))) and value != ((0,), (True,)))
                self.assertIs(is_kind_form(EMPTY, value), value == ((), ()))

    def test_books(self):
        for value in NO_BOOKS:
            self.assert_refused(InvalidBook, None, is_kind_form, value, ((), ()))
            self.assert_refused(InvalidBook, None, is_kind_form, value, None)


class KindsTest(RefusedTest):
    def test_examples(self):
        kinds = Kinds(LOADS)
        right = (((0,), (0,)), ((1, 2), (1, 2)), ((1, 2), (2,)), ((3,), (3,)))
        self.assertEqual((kinds.kinds, kinds.of_tree(("s", "s", "c"))), (right, ((1, 2), (2,))))
        self.assertEqual(kinds.covered(((0,), (0,))), ("a", "r"))
        self.assertEqual(kinds.tree_of(((1, 2), (2,))), ("s", "v"))
        self.assertEqual((str(kinds), str(Kinds(STEPS))), ("4 kinds of trees", "5 kinds of trees"))
        self.assertEqual(module.MAX_KINDS, 60)

    def test_kinds_of_small_trees(self):
        for book in SAMPLES:
            truth, kinds = Truth(book), Kinds(book)
            found = {}
            for tree in made_trees(book, 6)[:500]:
                kind = truth.kind(tree)
                found.setdefault(kind, len(tree))
                self.assertEqual(kinds.of_tree(tree), kind)
                self.assertTrue(kind in kinds)
                covered = tuple(word for word in truth.nonterminals if truth.covers(tree, word))
                self.assertEqual(kinds.covered(kind), covered)
            for kind in kinds.kinds:
                tree = kinds.tree_of(kind)
                self.assertEqual(kinds.of_tree(tree), kind)
                self.assertEqual(len(tree), found.get(kind, len(tree)))

    def test_no_kinds_are_left_out_or_put_in(self):
        for book in SAMPLES:
            truth, kinds = Truth(book), Kinds(book)
            self.assertEqual(kinds.kinds, tuple(sorted(set(kinds.kinds))))
            trees = [kinds.tree_of(kind) for kind in kinds.kinds]
            for name, arity in truth.arities.items():
                rows = [(name,)] if arity == 0 else [(name,) + one for one in trees]
                if arity == 2:
                    rows = [row + other for row in rows for other in trees]
                for tree in rows[:200]:
                    self.assertIn(truth.kind(tree), kinds.kinds)

    def test_after(self):
        for book in SAMPLES:
            kinds, ops = Kinds(book), book.operators
            for tree in made_trees(book, 5)[:100]:
                below = [kinds.of_tree(ops.subtree(tree, at)) for at in ops.children(tree, 0)]
                self.assertEqual(kinds.after(tree[0], *below), kinds.of_tree(tree))

    def test_books_without_rules_and_without_constants(self):
        kinds = Kinds(EMPTY)
        self.assertEqual((kinds.kinds, len(kinds), list(kinds)), ((((), ()),), 1, [((), ())]))
        self.assertEqual((kinds.covered(((), ())), kinds.tree_of(((), ()))), ((), ("c",)))
        self.assertEqual((kinds.of_tree(COMB), kinds.after("p", ((), ()), ((), ()))), (((), ()), ((), ())))
        none = Kinds(ENDLESS)
        self.assertEqual((none.kinds, len(none), list(none), str(none)), ((), 0, [], "0 kinds of trees"))
        self.assertFalse(((), ()) in none)
        self.assert_refused(InvalidKind, None, none.tree_of, ((), ()))
        self.assert_refused(InvalidKind, None, none.after, "s", ((), ()))
        self.assert_refused(InvalidOperation, None, none.after, "s")

    def test_several_constants_and_chain_rules(self):
        kinds = Kinds(RING)
        self.assertEqual((kinds.kinds, kinds.covered(((0,), (0,)))), ((((0,), (0,)),), ("m", "n")))
        chain = Book.from_lines("op c 0", "op v 0", "op s 1", "goal r", "rule r 0 a", "rule a 1 b", "rule b 0 v",
                                "rule a 0 s r")
        kinds = Kinds(chain)
        self.assertEqual(kinds.covered(kinds.of_tree(("v",))), ("a", "b", "r"))
        self.assertEqual(kinds.covered(kinds.of_tree(("s", "v"))), ("a", "r"))
        self.assertEqual(kinds.covered(kinds.of_tree(("s", "c"))), ())
        self.assertEqual(len(kinds), 4)

    def test_prices_and_orders_do_not_matter(self):
        for book in SAMPLES:
            told = Kinds(book).kinds
            self.assertEqual(Kinds(book.scaled(0)).kinds, told)
            self.assertEqual(Kinds(book.ordered(tuple(reversed(range(len(book)))))).kinds, told)
            self.assertEqual(Kinds(book.largest_first()).kinds, told)
            if len(book):
                self.assertEqual(Kinds(book.with_price(0, 9)).kinds, told)
                self.assertIs(Kinds(book.with_price(0, 9)) == Kinds(book.with_price(0, 8)), False)

    def test_as_few_places_as_possible_of_rows_and_combs(self):
        # The trees of these kinds begin alike, but a row or a comb below is the least one.
        for row, comb, right in ((5, 2, 6), (4, 3, 6), (5, 3, 7), (3, 2, 5)):
            below = ("s " * row + "c", "p " * comb + "c " * comb + "c")
            rules = [f"rule r 0 {words}" for words in below]
            book = Book.from_lines("op c 0", "op p 2", "op s 1", "op u 1", "goal r", "rule r 1 u r", *rules)
            kinds = Kinds(book)
            part = book.parts.index(("u", "r"))
            tree = kinds.tree_of(((part,), (part,)))
            self.assertEqual((len(tree), tree[0], kinds.of_tree(tree)), (right, "u", ((part,), (part,))))

    def test_long_trees(self):
        kinds = Kinds(STEPS)
        self.assertEqual(kinds.of_tree(ROW), ((1, 2, 3, 4), (1, 2, 3, 4)))
        kinds = Kinds(ADDS)
        parts = ADDS.parts
        right = (parts.index(("p", "r", "c")), parts.index(("p", "r", "r")))
        self.assertEqual(kinds.of_tree(COMB), (right, right))
        self.assertEqual(kinds.of_tree(RIGHT), (right[1:], right[1:]))
        kinds = Kinds(DEEP)
        self.assertEqual(kinds.of_tree(COMB)[1], ())
        self.assert_refused(InvalidTree, None, Kinds(STEPS).of_tree, ("s",) + ROW)


class LimitTest(RefusedTest):
    def test_just_sixty_and_more(self):
        for many, book in ((60, SIXTY), (61, SIXTY_ONE)):
            self.assertEqual(len(Truth(book).trees_of_kinds(70)), many)
        kinds = Kinds(SIXTY)
        self.assertEqual((len(kinds), str(kinds)), (60, "60 kinds of trees"))
        self.assertEqual(kinds.kinds, tuple(sorted(Truth(SIXTY).trees_of_kinds(70))))
        self.assert_refused(TooMany, 60, Kinds, SIXTY_ONE)

    def test_many_more(self):
        rules = [f"rule {name} 0 {'s ' * many}{name}" for name, many in zip("abdef", (6, 5, 4, 3, 2))]
        rules += [f"rule {name} 0 c" for name in "abdef"]
        self.assert_refused(TooMany, 60, Kinds, Book.from_lines("op c 0", "op s 1", "goal a", *rules))

    def test_books_come_ahead(self):
        self.assert_refused(InvalidBook, None, Kinds, SIXTY_ONE.lines)

    def test_single_trees_have_no_limit(self):
        tree = ("p", "p", "c", "c", "c")
        truth = Truth(SIXTY_ONE)
        right = [at for at, rule in enumerate(SIXTY_ONE.rules) if truth.leaves(rule[2], tree, 0) is not None]
        self.assertEqual(matching(SIXTY_ONE, tree, 0), tuple(right))
        self.assertEqual(leaves_at(SIXTY_ONE, ("p", "b", "c"), tree, 0), (("b", 1),))
        self.assertIs(is_kind_form(SIXTY_ONE, ((0,), (0,))), True)


class ObjectTest(RefusedTest):
    def test_in_len_iterating_and_str(self):
        for book in SAMPLES:
            kinds = Kinds(book)
            self.assertEqual((list(kinds), len(kinds)), (list(kinds.kinds), len(kinds.kinds)))
            self.assertEqual(str(kinds), f"{len(kinds)} kinds of trees")
            self.assertTrue(all(kind in kinds for kind in kinds))
            self.assertIs(kinds.book == book, True)

    def test_other_values_are_no_kinds(self):
        kinds = Kinds(STEPS)
        odd = [((1,), ()), ((1, 3), (1,)), ((0,), ()), ((), ()), ((False,), (False,)), ((0,), (False,)), [(0,), (0,)],
               ((0,), [0])]
        for value in (*others(lambda value: value == ((0,), (0,))), *odd):
            with self.subTest(value=value):
                self.assertIs(value in kinds, False)
                for method in (kinds.covered, kinds.tree_of):
                    self.assert_refused(InvalidKind, None, method, value)
                self.assert_refused(InvalidKind, None, kinds.after, "s", value)

    def test_errors_of_after_in_their_order(self):
        kinds = Kinds(ADDS)
        kind = kinds.kinds[0]
        names = wrong_values(UnknownName, "r", "x", "", None, 0, ("p",), ["p"], {}, True)
        wrong = wrong_values(InvalidKind, None, ((), ()), ((0,), (True,)), [])
        self.assert_order(kinds.after, ("p", names), (kind, wrong), (kind, wrong))
        call = lambda name, one, many: kinds.after(name, one, *[kind] * many)
        self.assert_order(call, ("p", names), (kind, wrong),
                          (1, [(many, InvalidOperation, None) for many in (0, 2, 3)]))
        self.assert_refused(InvalidOperation, None, kinds.after, "c", kind)
        self.assert_refused(InvalidOperation, None, kinds.after, "p")
        self.assert_refused(InvalidKind, None, kinds.after, "c", kind, None)
        for value in others(lambda value: value in ("c",)):
            self.assert_refused(UnknownName, value, kinds.after, value, kind, None)

    def test_trees_and_books(self):
        for value in NO_BOOKS:
            self.assert_refused(InvalidBook, None, Kinds, value)
        for value in (*others(lambda value: value in (("c",),)), ("v",), ("s",), ("_",)):
            self.assert_refused(InvalidTree, None, Kinds(STEPS).of_tree, value)

    def test_equal_kinds_have_equal_books(self):
        for one in EXAMPLES:
            for other in EXAMPLES:
                self.assertIs(Kinds(one) == Kinds(Book.from_lines(*other.lines)), one is other)
                self.assertIs(Kinds(one) != Kinds(other), one is not other)
        for value in everything():
            self.assertIs(Kinds(STEPS) == value, False)
            self.assertIs(Kinds(STEPS) != value, True)

    def test_nothing_is_shared(self):
        kinds = Kinds(LOADS)
        for _ in range(2):
            for kind in kinds.kinds:
                told = (kinds.kinds, kinds.covered(kind), kinds.tree_of(kind), kinds.of_tree(kinds.tree_of(kind)))
                self.assertTrue(all(type(value) is tuple for value in told))
                self.assertEqual(told, (kinds.kinds, kinds.covered(kind), kinds.tree_of(kind), kind))
        self.assertEqual(small_trees(STEPS, 2), [("c",), ("s", "c")])


if __name__ == "__main__":
    unittest.main()
