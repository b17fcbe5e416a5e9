"""Operators with arities, and the trees and contexts that are made of them."""

from munchbehind.base.words import is_count, is_integer, is_name
from munchbehind.errors import InvalidNumber, InvalidOperators, InvalidTree, ParseError, TooMany

MAX_OPERATORS = 8
MAX_TREE = 5000
MAX_SIZE = 200
HOLE = "_"


def are_arities(value):
    """Whether the value is a dict from one to MAX_OPERATORS names to arities."""
    if not isinstance(value, dict) or not 1 <= len(value) <= MAX_OPERATORS:
        return False
    return all([is_name(name) and is_integer(value[name]) and 0 <= value[name] <= 2 for name in value])


def operator_of(line):
    """The pair of the name and the arity in a line like "op add 2"; None if it is no line."""
    if not isinstance(line, str):
        return None
    words = line.split(" ")
    if len(words) != 3 or words[0] != "op" or not is_name(words[1]) or words[2] not in ("0", "1", "2"):
        return None
    return words[1], int(words[2])


def is_whole(words, arities):
    """Whether the words are one tree in prefix order, by a dict of arities."""
    awaited = 1
    for word in words:
        if awaited == 0 or not isinstance(word, str) or word not in arities:
            return False
        awaited += arities[word] - 1
    return awaited == 0


def check_size(size):
    """Refuses what is no size of trees that are counted."""
    if not is_count(size) or not 1 <= size <= MAX_SIZE:
        raise InvalidNumber(size)


class Operators:
    """Operators with arities from 0 to 2. They never change."""

    def __init__(self, arities):
        if not are_arities(arities):
            raise InvalidOperators("not a dict from one to eight names to arities from 0 to 2")
        self._names = tuple(sorted(arities))
        self._arities = {name: arities[name] for name in self._names}
        self._lines = tuple([f"op {name} {arities[name]}" for name in self._names])
        told = list(arities.values())
        self._many = told.count(0), told.count(1), told.count(2)
        self._counts = [0, self._many[0]]
        self._rows = []

    @classmethod
    def from_lines(cls, *lines):
        """The operators with lines like "op add 2", in any order."""
        arities = {}
        for index, line in enumerate(lines):
            operator = operator_of(line)
            if operator is None or operator[0] in arities:
                raise ParseError(index)
            arities[operator[0]] = operator[1]
        return cls(arities)

    @property
    def arities(self):
        """A dict from the names to the arities."""
        return dict(self._arities)

    @property
    def names(self):
        """All names, ascending."""
        return self._names

    @property
    def constants(self):
        """The names of the operators with the arity 0, ascending."""
        return tuple([name for name in self._names if self._arities[name] == 0])

    @property
    def lines(self):
        """The lines of the operators, ascending by names."""
        return self._lines

    def is_tree(self, value):
        """Whether the value is a tree of at most MAX_TREE places."""
        return isinstance(value, tuple) and len(value) <= MAX_TREE and is_whole(value, self._arities)

    def is_context(self, value):
        """Whether the value is a context of at most MAX_TREE places."""
        if not isinstance(value, tuple) or len(value) > MAX_TREE or value.count(HOLE) != 1:
            return False
        return is_whole(value, {**self._arities, HOLE: 0})

    def end(self, tree, place):
        """The index behind the subtree at a place."""
        self._check_place(tree, place)
        return self._end(tree, place)

    def subtree(self, tree, place):
        """The subtree at a place."""
        self._check_place(tree, place)
        return tree[place:self._end(tree, place)]

    def children(self, tree, place):
        """The places of the subtrees of the operator at a place."""
        self._check_place(tree, place)
        places = []
        child = place + 1
        for _ in range(self._arities[tree[place]]):
            places.append(child)
            child = self._end(tree, child)
        return tuple(places)

    def above(self, tree, place):
        """The places on the way from the root to a place, without this one."""
        self._check_place(tree, place)
        parents = self._parents(tree)
        way = []
        at = parents[place]
        while at is not None:
            way.append(at)
            at = parents[at]
        return tuple(way[::-1])

    def levels(self, tree):
        """The greatest number of places on a way from the root to a leaf."""
        self._check_tree(tree)
        levels = []
        for parent in self._parents(tree):
            levels.append(1 if parent is None else levels[parent] + 1)
        return max(levels)

    def replaced(self, tree, place, other):
        """The tree with another one as the subtree at a place."""
        self._check_place(tree, place)
        self._check_tree(other)
        whole = tree[:place] + other + tree[self._end(tree, place):]
        if len(whole) > MAX_TREE:
            raise TooMany(MAX_TREE)
        return whole

    def cut(self, tree, place):
        """The pair of the context and the subtree at a place."""
        self._check_place(tree, place)
        end = self._end(tree, place)
        return tree[:place] + (HOLE,) + tree[end:], tree[place:end]

    def filled(self, context, *rest):
        """The context filled with the first one of the others, and so on."""
        self._check_filling(context, rest)
        if sum([len(part) - 1 for part in rest]) + len(context) > MAX_TREE:
            raise TooMany(MAX_TREE)
        ahead = []
        behind = []
        inner = context
        for part in rest:
            hole = inner.index(HOLE)
            ahead.extend(inner[:hole])
            # What stands behind the holes is gathered from right to left.
            behind.extend(inner[:hole:-1])
            inner = part
        return tuple(ahead) + inner + tuple(behind[::-1])

    def count_trees(self, size):
        """The number of trees of a size."""
        check_size(size)
        return self._count(size)

    def each_tree(self, size):
        """Yields the trees of a size, in order."""
        check_size(size)
        forests = self._forests(size)
        waiting = [((), 1)]
        while waiting:
            words, awaited = waiting.pop()
            if len(words) == size:
                yield words
                continue
            row = forests[size - len(words) - 1]
            # The last one that is put in is taken first.
            for name in reversed(self._names):
                then = awaited - 1 + self._arities[name]
                if row[then] > 0:
                    waiting.append((words + (name,), then))

    def tree_at(self, size, number):
        """The tree with a number among those of a size."""
        check_size(size)
        if not is_count(number) or number >= self._count(size):
            raise InvalidNumber(number)
        words = []
        awaited = 1
        rest = number
        for row in reversed(self._forests(size)[:size]):
            at = 0
            while rest >= row[awaited - 1 + self._arities[self._names[at]]]:
                rest -= row[awaited - 1 + self._arities[self._names[at]]]
                at += 1
            words.append(self._names[at])
            awaited += self._arities[self._names[at]] - 1
        return tuple(words)

    def number_of(self, tree):
        """The number of a tree among those of its size."""
        self._check_tree(tree)
        size = len(tree)
        if size > MAX_SIZE:
            raise InvalidTree("more places than are counted")
        forests = self._forests(size)
        number = 0
        awaited = 1
        for at, word in enumerate(tree):
            row = forests[size - at - 1]
            for name in self._names[:self._names.index(word)]:
                number += row[awaited - 1 + self._arities[name]]
            awaited += self._arities[word] - 1
        return number

    def __len__(self):
        return len(self._names)

    def __contains__(self, value):
        return isinstance(value, str) and value in self._arities

    def __iter__(self):
        return iter(self._lines)

    def __eq__(self, other):
        return isinstance(other, Operators) and self._arities == other._arities

    def __str__(self):
        return f"{len(self._names)} operators"

    def _check_tree(self, tree):
        if not self.is_tree(tree):
            raise InvalidTree("not a tree of these operators")

    def _check_place(self, tree, place):
        self._check_tree(tree)
        if not is_count(place) or place >= len(tree):
            raise InvalidNumber(place)

    def _check_filling(self, context, rest):
        contexts = (context,) + rest[:-1]
        if not all([self.is_context(part) for part in contexts]):
            raise InvalidTree("not a context of these operators")
        if rest and not self.is_tree(rest[-1]) and not self.is_context(rest[-1]):
            raise InvalidTree("neither a tree nor a context of these operators")

    def _end(self, tree, place):
        awaited = 1
        at = place
        while awaited > 0:
            awaited += self._arities[tree[at]] - 1
            at += 1
        return at

    def _parents(self, tree):
        """The list of the places right above all places, None for the root."""
        parents = []
        waiting = [None]
        for at, word in enumerate(tree):
            parents.append(waiting.pop())
            waiting.extend([at] * self._arities[word])
        return parents

    def _count(self, size):
        """The number of trees of a size: all smaller ones are counted before, and kept."""
        none, one, two = self._many
        counts = self._counts
        while len(counts) <= size:
            places = len(counts)
            # The numbers are those of a square root of a polynomial, which follow from the two before.
            less = (one * one - 4 * none * two) * (places - 2) * counts[places - 2]
            counts.append((one * (2 * places - 1) * counts[places - 1] - less) // (places + 1))
        return counts[size]

    def _forests(self, size):
        """A list of rows: item k of row r is the number of rows of k trees with r places together.

        Just those are counted that a tree of this size, or of a smaller one, can end with. They are kept; if a
        greater size is asked for, sizes up to twice the one before are counted at once.
        """
        if len(self._rows) <= size:
            self._rows = self._counted_rows(max(size, min(MAX_SIZE, 2 * len(self._rows) - 2)))
        return self._rows

    def _counted_rows(self, size):
        none, one, two = self._many
        rows = [[1, 0, 0]]
        for places in range(1, size + 1):
            below = rows[-1]
            # With size - places places ahead, at most one tree more than these is awaited.
            most = min(places, size - places + 1)
            lows, same = below[:most], below[1:]
            row = [none * low + one * mid + two * high for low, mid, high in zip(lows, same, below[2:])]
            rows.append([0, *row, 0, 0])
        return rows
