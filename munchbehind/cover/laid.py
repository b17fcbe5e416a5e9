"""A tree that is to be covered: its leaves, and the numbers of its covers."""

from munchbehind.base.asked import check_book, check_careful, check_tree, start_of
from munchbehind.base.patterns import ends_of, leaves_of


def count_row(numbered, operator, left, right):
    """By sides: the number of covers, for those that there is one from; made of the rows of the subtrees."""
    row = {}
    for part, one, two in numbered.made[operator]:
        if one in left and two in right:
            row[part] = left[one] * right[two]
    for side in numbered.in_nonterminals:
        counts = [row[part] for _, _, part in numbered.ways[side] if part in row]
        if counts:
            row[side] = sum(counts)
    return row


def asked_side(book, tree, start, careful):
    """The number of the side that is started from, if what is asked is right."""
    check_book(book)
    check_tree(book, tree)
    check_careful(careful)
    return start_of(book, start)


def lay(book, tree, start):
    """The tree that is asked for, likewise."""
    side = asked_side(book, tree, start, False)
    return Laid(book.numbered_sides(), tree, side)


class Laid:
    """A tree that is covered from a side."""

    def __init__(self, numbered, tree, first):
        self.first = first
        self.numbered = numbered
        self.words = tree
        self._ends = ends_of(tree, numbered.arity)

    def ready_sides(self):
        """The list of the sets of the sides from which there are covers, at all places."""
        return self.numbered.ready_at(self.words, self._ends)

    def leaves(self, part, place):
        """The list of the pairs (side, place) of the leaves of a part that matches at a place."""
        numbered = self.numbered
        leaves = leaves_of(numbered.spelled[part], self.words, place, self._ends, numbered.arity)
        return [(numbered.numbers[(word,)], at) for word, at in leaves]

    def count_rows(self):
        """The list of the numbers of covers by sides at all places."""
        numbered = self.numbered
        nothing = {None: 1}
        rows = [nothing] * len(self.words)
        for place in range(len(rows) - 1, -1, -1):
            operator = self.words[place]
            arity = numbered.arity[operator]
            left = rows[place + 1] if arity > 0 else nothing
            right = rows[self._ends[place + 1]] if arity > 1 else nothing
            rows[place] = count_row(numbered, operator, left, right)
        return rows
