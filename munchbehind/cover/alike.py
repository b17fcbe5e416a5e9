"""Prices and covers of whole trees, found by what is alike in their subtrees."""

from munchbehind.base.kept import kept_answer
from munchbehind.base.sides import ANY
from munchbehind.cover.choice import chosen
from munchbehind.cover.laid import asked_side

MAX_GROUPS = 5000
# The group of a subtree that there is not, and the rise of its prices.
NO_TREE = (0, 0)


def lowered(row):
    """The pair of a row of prices less the least one of them, and this one; 0 if there is none."""
    least = min(list(row.values())) if row else 0
    return {side: price - least for side, price in row.items()}, least


def cheap_row(numbered, operator, left, right):
    """By sides: the least price of a cover where there is one; made of the rows of the subtrees."""
    row = {}
    for part, one, two in numbered.made[operator]:
        if one in left and two in right:
            row[part] = left[one] + right[two]
    for side in numbered.in_nonterminals:
        prices = [row[part] + price for _, price, part in numbered.least[side] if part in row]
        if prices:
            row[side] = min(prices)
    return row


def greedy_row(numbered, operator, left, right, let):
    """By sides: the price of the greedy selector where it is not stuck, likewise.

    Let is the set of the sides that a rule may lead to here.
    """
    row = {}
    for part, one, two in numbered.made[operator]:
        if one in left and two in right:
            row[part] = left[one] + right[two]
    for side in numbered.in_nonterminals:
        way = chosen(numbered.used, numbered.below, side, let)
        if way is not None and way[2] in row:
            row[side] = row[way[2]] + way[1]
    return row


class Group:
    """Trees that are alike: the same sides match, and the same are ready, and the prices by sides differ alike.

    Cheap and dear are the rows of the least prices and of those of the greedy selector, less a number each.
    """

    def __init__(self, matches, readies, cheap, dear):
        self.matches = matches
        self.readies = readies
        self.cheap = cheap
        self.dear = dear


class Alike:
    """The groups of the trees of a book and a mode, as far as they were met, by numbers.

    A number of a group holds until the next tree is asked for; there are many of them in few books only.
    """

    def __init__(self, numbered, careful):
        self.numbered = numbered
        self._careful = careful
        self._clear()

    def over(self, operator, left, right):
        """The group of an operator over trees of two groups, and by how much its prices rise above those below.

        This is a triple: the rise of the least prices comes ahead of that of the greedy ones. 0 stands for the group
        of a subtree that there is not.
        """
        key = (operator, left, right)
        if key not in self._known:
            self._known[key] = self._put(operator, self._groups[left], self._groups[right])
        return self._known[key]

    def of_tree(self, tree):
        """The group of a tree, and by how much its least prices and its greedy ones are above those of the group."""
        self._make_room()
        arity, known = self.numbered.arity, self._known
        waiting = []
        cheap = 0
        dear = 0
        # From right to left all subtrees come ahead of the operators above them.
        for word in reversed(tree):
            many = arity[word]
            left = waiting.pop() if many > 0 else 0
            right = waiting.pop() if many > 1 else 0
            key = (word, left, right)
            group, more, dearer = known[key] if key in known else self.over(word, left, right)
            waiting.append(group)
            cheap += more
            dear += dearer
        return waiting[0], cheap, dear

    def at_places(self, tree):
        """The lists of the groups of all subtrees, and by how much their least prices are above those of the groups."""
        self._make_room()
        arity, known = self.numbered.arity, self._known
        waiting = []
        groups = []
        rises = []
        for word in reversed(tree):
            many = arity[word]
            left, low = waiting.pop() if many > 0 else NO_TREE
            right, other = waiting.pop() if many > 1 else NO_TREE
            key = (word, left, right)
            group, more, _ = known[key] if key in known else self.over(word, left, right)
            more = more + low + other
            waiting.append((group, more))
            groups.append(group)
            rises.append(more)
        return groups[::-1], rises[::-1]

    def group(self, number):
        """The group with a number."""
        return self._groups[number]

    def prices(self, told, side):
        """The least price and the greedy price from a side, None where there is none, of a tree as it was told."""
        number, cheap, dear = told
        group = self._groups[number]
        return (
            group.cheap[side] + cheap if side in group.cheap else None,
            group.dear[side] + dear if side in group.dear else None,
        )

    def greedy_step(self, number, side):
        """How the greedy selector goes on: the rules, their price, and the sides below; None if it is stuck."""
        key = (number, side)
        if key not in self._greedy_steps:
            group = self._groups[number]
            let = group.readies if self._careful else group.matches
            below = self.numbered.below
            way = ((), 0, side) if below[side] is not None else chosen(self.numbered.used, below, side, let)
            self._greedy_steps[key] = None if way is None else (way[0], way[1], below[way[2]])
        return self._greedy_steps[key]

    def cheap_step(self, number, side):
        """How a cheapest cover goes on, likewise."""
        key = (number, side)
        if key not in self._cheap_steps:
            row, below = self._groups[number].cheap, self.numbered.below
            ways = [((), 0, side)] if below[side] is not None else self.numbered.least[side]
            told = [(row[part] + price, rules, price, below[part]) for rules, price, part in ways if part in row]
            self._cheap_steps[key] = min(told)[1:] if told else None
        return self._cheap_steps[key]

    def steps_down(self, number, beside, on, side):
        """How covers go on in one of the subtrees, the left one for 0, the right one for 1.

        It is a list of pairs of a side below, and the least price at the root and in the subtree beside it; beside is
        the group of that one, 0 if there is none.
        """
        key = (number, beside, on, side)
        if key not in self._steps_down:
            self._steps_down[key] = self._led_down(self._groups[number].cheap, self._groups[beside].cheap, on, side)
        return self._steps_down[key]

    def _led_down(self, row, other, on, side):
        """The same, worked out of the least prices at the root and beside."""
        below = self.numbered.below
        ways = [((), 0, side)] if below[side] is not None else self.numbered.least[side]
        found = {}
        for _, price, part in ways:
            if part in row:
                lows = below[part]
                more = price + (other[lows[1 - on]] if len(lows) == 2 else 0)
                if lows[on] not in found or more < found[lows[on]]:
                    found[lows[on]] = more
        return list(found.items())

    def _make_room(self):
        """Begins anew, if too many groups were met."""
        if len(self._groups) > MAX_GROUPS:
            self._clear()

    def _clear(self):
        # The first group stands for a subtree that there is not.
        nothing = {None: 0}
        self._groups = [Group(ANY, ANY, nothing, nothing)]
        self._known = {}
        self._found = {}
        self._greedy_steps = {}
        self._cheap_steps = {}
        self._steps_down = {}

    def _put(self, operator, left, right):
        numbered = self.numbered
        matches = numbered.matched(operator, left.matches, right.matches)
        readies = numbered.ready(operator, left.readies, right.readies)
        cheap, more = lowered(cheap_row(numbered, operator, left.cheap, right.cheap))
        let = readies if self._careful else matches
        dear, dearer = lowered(greedy_row(numbered, operator, left.dear, right.dear, let))
        key = (matches, readies, tuple(cheap.items()), tuple(dear.items()))
        if key not in self._found:
            self._found[key] = len(self._groups)
            self._groups.append(Group(matches, readies, cheap, dear))
        return self._found[key], more, dearer


def work_out_alike(book, careful):
    """The groups of trees of a book and a mode, of which none is met yet."""
    return Alike(book.numbered_sides(), careful)


def alike_of(book, careful):
    """The groups of trees of a book and a mode, which are kept for later questions."""
    return kept_answer(book, careful, work_out_alike)


def asked_prices(book, tree, start, careful=False):
    """The least price of a tree and the greedy one, None where there is none, if what is asked is right."""
    side = asked_side(book, tree, start, careful)
    alike = alike_of(book, careful)
    return alike.prices(alike.of_tree(tree), side)
