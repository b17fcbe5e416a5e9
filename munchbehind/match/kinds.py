"""Where patterns match, and the kinds of trees that follow from it."""

from munchbehind.base.asked import check_book, check_place, check_tree
from munchbehind.base.kept import kept_answer
from munchbehind.base.patterns import ends_of, leaves_of
from munchbehind.base.words import is_count
from munchbehind.errors import InvalidKind, InvalidOperation, TooMany, UnknownName
from munchbehind.match.least import Least
from munchbehind.match.tables import KindTable

MAX_KINDS = 60


def leaves_at(book, pattern, tree, place):
    """The pairs (nonterminal, place) of the leaves of a pattern at a place; None if it does not match there."""
    check_book(book)
    if pattern not in book.parts and pattern not in [rule[2] for rule in book.rules]:
        raise InvalidOperation("neither the pattern of a rule nor a part")
    check_tree(book, tree)
    check_place(tree, place)
    arities = book.operators.arities
    leaves = leaves_of(pattern, tree, place, ends_of(tree, arities), arities)
    return None if leaves is None else tuple(leaves)


def matching(book, tree, place):
    """The indices of all rules whose patterns match at a place, ascending."""
    check_book(book)
    check_tree(book, tree)
    check_place(tree, place)
    arities = book.operators.arities
    ends = ends_of(tree, arities)
    found = []
    for index, rule in enumerate(book.rules):
        if leaves_of(rule[2], tree, place, ends, arities) is not None:
            found.append(index)
    return tuple(found)


def are_parts(value, many):
    """Whether the value is an ascending tuple of indices of so many parts."""
    if not isinstance(value, tuple) or not all([is_count(index) and index < many for index in value]):
        return False
    return all([one < other for one, other in zip(value, value[1:])])


def is_kind_form(book, value):
    """Whether the value is a pair of ascending tuples of indices of parts, the second one within the first one."""
    check_book(book)
    many = len(book.parts)
    if not isinstance(value, tuple) or len(value) != 2 or not all([are_parts(told, many) for told in value]):
        return False
    return all([index in value[0] for index in value[1]])


def work_out_kinds(book, _):
    """The kinds of all trees of a book by numbers; they are the same in both modes."""
    return KindTable(book.numbered_sides(), MAX_KINDS)


def kind_table(book):
    """The kinds of all trees of a book by numbers, if they are not too many."""
    table = kept_answer(book, None, work_out_kinds)
    if table.is_cut_off:
        raise TooMany(MAX_KINDS)
    return table


def work_out_least(book, _):
    """The least trees of all kinds of a book."""
    steps = []
    for kind, rows in enumerate(kind_table(book).steps):
        steps.extend([(kind, operator, below) for operator, below in rows])
    return Least(steps)


class Kinds:
    """The kinds of all trees of a book. They never change."""

    def __init__(self, book):
        check_book(book)
        self._book = book
        self._table = kind_table(book)
        self._kinds = tuple(self._table.spelled)

    @property
    def book(self):
        """The book."""
        return self._book

    @property
    def kinds(self):
        """All kinds, ascending."""
        return self._kinds

    def of_tree(self, tree):
        """The kind of a tree."""
        check_tree(self._book, tree)
        return self._kinds[self._table.kinds_at(tree, ends_of(tree, self._table.numbered.arity))[0]]

    def after(self, operator, *rest):
        """The kind of a tree with an operator, and subtrees of some kinds."""
        if operator not in self._book.operators:
            raise UnknownName(operator)
        below = tuple([self._number(kind) for kind in rest])
        if len(below) != self._table.numbered.arity[operator]:
            raise InvalidOperation("not as many subtrees as the operator has")
        return self._kinds[self._table.made[(operator, below)]]

    def covered(self, kind):
        """The nonterminals from which trees of a kind have covers, ascending."""
        ready = self._table.readies[self._number(kind)]
        numbers = self._table.numbered.numbers
        return tuple([word for word in self._book.nonterminals if ready >> numbers[(word,)] & 1])

    def tree_of(self, kind):
        """A tree of a kind with as few places as possible."""
        number = self._number(kind)
        return kept_answer(self._book, None, work_out_least).spelled_tree(number)

    def __len__(self):
        return len(self._kinds)

    def __contains__(self, value):
        return is_kind_form(self._book, value) and value in self._table.numbers

    def __iter__(self):
        return iter(self._kinds)

    def __eq__(self, other):
        return isinstance(other, Kinds) and self._book == other._book

    def __str__(self):
        return f"{len(self._kinds)} kinds of trees"

    def _number(self, kind):
        if kind not in self:
            raise InvalidKind("no kind of a tree")
        return self._table.numbers[kind]
