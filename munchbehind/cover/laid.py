"""A tree that is to be covered: places, leaves, prices and numbers of covers."""

from munchbehind.base.asked import check_book, check_careful, check_tree, start_of
from munchbehind.base.patterns import ends_of, leaves_of
from munchbehind.base.words import is_count
from munchbehind.errors import InvalidCover


def price_row(numbered, operator, left, right):
    """By sides: the least price of a cover, for those that there is one from; made of the rows of the subtrees."""
    row = {}
    for part, one, two in numbered.made[operator]:
        if one in left and two in right:
            row[part] = left[one] + right[two]
    for side in numbered.in_nonterminals:
        prices = [row[part] + price for _, price, part in numbered.least[side] if part in row]
        if prices:
            row[side] = min(prices)
    return row


def count_row(numbered, operator, left, right):
    """By sides: the number of covers, likewise."""
    row = {}
    for part, one, two in numbered.made[operator]:
        if one in left and two in right:
            row[part] = left[one] * right[two]
    for side in numbered.in_nonterminals:
        counts = [row[part] for _, _, part in numbered.ways[side] if part in row]
        if counts:
            row[side] = sum(counts)
    return row


def lay(book, tree, start, careful=False):
    """The tree that is asked for, if what is asked is right."""
    check_book(book)
    check_tree(book, tree)
    check_careful(careful)
    return Laid(book, tree, start)


def tiles_of(laid, cover):
    """The list of the pairs (place, rule) of a cover that is asked for."""
    found = laid.tiles(cover)
    if found is None:
        raise InvalidCover("no cover of the tree")
    return found


class Laid:
    """A tree of a book, which is covered from a nonterminal, None being the goal."""

    def __init__(self, book, tree, start):
        self.first = start_of(book, start)
        self.numbered = book.numbered_sides()
        self.words = tree
        self.ends = ends_of(tree, self.numbered.arity)

    def sets(self, is_ready):
        """The list of the sets of ready sides, or of matched ones, at all places."""
        return self.numbered.sets_at(self.words, self.ends, is_ready)

    def price_rows(self):
        """The list of the least prices by sides at all places."""
        return self._rows(price_row, {None: 0})

    def count_rows(self):
        """The list of the numbers of covers by sides at all places."""
        return self._rows(count_row, {None: 1})

    def leaves(self, part, place):
        """The list of the pairs (side, place) of the leaves of a part; None if it does not match there."""
        numbered = self.numbered
        leaves = leaves_of(numbered.spelled[part], self.words, place, self.ends, numbered.arity)
        return None if leaves is None else [(numbered.numbers[(word,)], at) for word, at in leaves]

    def tiles(self, value):
        """The list of the pairs (place, rule) of a cover; None if the value is no cover."""
        if not isinstance(value, tuple):
            return None
        found = []
        waiting = [(0, (self.first,))]
        for index in value:
            if not waiting or not is_count(index) or index >= len(self.numbered.ruled):
                return None
            place, given = waiting.pop()
            more = self._given_by(index, place, given)
            if more is None:
                return None
            found.append((place, index))
            waiting.extend(more[::-1])
        return None if waiting else found

    def price(self, tiles):
        """The price of a cover."""
        return sum([self.numbered.ruled[index][1] for _, index in tiles])

    def sides(self, tiles):
        """The list of the sides of a cover at all places."""
        found = [None] * len(self.words)
        for place, index in tiles:
            side, _, target = self.numbered.ruled[index]
            if found[place] is None:
                found[place] = side
            if self.numbered.below[target] is not None:
                self._mark_inside(found, target, place)
        return found

    def prices(self, tiles):
        """The list of the prices of a cover at all places."""
        found = [0] * len(self.words)
        for place, index in tiles:
            found[place] += self.numbered.ruled[index][1]
        return found

    def _rows(self, row_of, nothing):
        """The rows of all places; nothing stands for that of a subtree that there is not."""
        numbered = self.numbered
        rows = [nothing] * len(self.words)
        for place in range(len(rows) - 1, -1, -1):
            operator = self.words[place]
            arity = numbered.arity[operator]
            left = rows[place + 1] if arity > 0 else nothing
            right = rows[self.ends[place + 1]] if arity > 1 else nothing
            rows[place] = row_of(numbered, operator, left, right)
        return rows

    def _given_by(self, index, place, given):
        """What a rule gives at a place: pairs of a place and what has been given there; None if it cannot be used."""
        side, _, target = self.numbered.ruled[index]
        if side != given[-1] or target in given:
            return None
        if self.numbered.below[target] is None:
            return [(place, given + (target,))]
        leaves = self.leaves(target, place)
        return None if leaves is None else [(at, (low,)) for low, at in leaves]

    def _mark_inside(self, found, part, place):
        """Marks the places inside a pattern with its parts."""
        waiting = [(part, place)]
        while waiting:
            inner, at = waiting.pop()
            child = at + 1
            for low in self.numbered.below[inner]:
                if self.numbered.below[low] is not None:
                    found[child] = low
                    waiting.append((low, child))
                child = self.ends[child]
