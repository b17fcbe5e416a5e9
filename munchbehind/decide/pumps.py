"""Pumps: trees with a part that can be repeated."""

from munchbehind.base.asked import check_book, check_careful
from munchbehind.base.patterns import ends_of
from munchbehind.base.trees import MAX_TREE
from munchbehind.base.words import coprime, is_count
from munchbehind.cover.walks import asked_walk
from munchbehind.decide.joined import Joined, filled_times
from munchbehind.decide.pairs import Pairs
from munchbehind.decide.ways import Powers, closing, least_mean, with_rests
from munchbehind.errors import InvalidNumber, InvalidOperation, InvalidTree, TooMany

MAX_TIMES = 10 ** 18
MAX_EXCESS = 1000


def check_pump(book, outer, loop, inner, careful):
    """Refuses what cannot be asked for, whether or not it is a pump."""
    check_book(book)
    ops = book.operators
    if not ops.is_context(outer) or not ops.is_context(loop) or not ops.is_tree(inner):
        raise InvalidTree("no two contexts and a tree for the operators of the book")
    check_careful(careful)


def is_pump(book, outer, loop, inner, *, careful=False):
    """Whether two contexts and a tree are a pump."""
    check_pump(book, outer, loop, inner, careful)
    return Joined(book, outer, loop, inner, careful).pump_walk() is not None


class Pump:
    """Two contexts and a tree, the second context being repeated. It never changes."""

    def __init__(self, book, outer, loop, inner, *, careful=False):
        check_pump(book, outer, loop, inner, careful)
        joined = Joined(book, outer, loop, inner, careful)
        walk = joined.pump_walk()
        if walk is None:
            raise InvalidOperation("no pump")
        self._book = book
        self._outer = outer
        self._loop = loop
        self._inner = inner
        self._careful = careful
        self._told = (outer, loop, inner, careful)
        self._side = joined.spell(walk.met[joined.high])
        self._sums = joined.sums(walk)
        self._work_out(joined)

    @property
    def book(self):
        """The book."""
        return self._book

    @property
    def outer(self):
        """The outer context."""
        return self._outer

    @property
    def loop(self):
        """The context that is repeated."""
        return self._loop

    @property
    def inner(self):
        """The inner tree."""
        return self._inner

    @property
    def is_careful(self):
        """Whether the greedy selector is a careful one."""
        return self._careful

    @property
    def side(self):
        """The side of the greedy selector at the holes."""
        return self._side

    @property
    def loop_prices(self):
        """The triples of a side at both holes, and the prices of loop by the greedy selector and by another cover."""
        return self._loop_prices

    @property
    def rate(self):
        """The limit of the excess by times, as a pair of coprime integers."""
        return self._rate

    def tree(self, times):
        """The tree with so many times loop."""
        self._check_times(times)
        if len(self._outer) - 1 + times * (len(self._loop) - 1) + len(self._inner) > MAX_TREE:
            raise TooMany(MAX_TREE)
        return filled_times(self._outer, self._loop, self._inner, times)

    def greedy_price(self, times):
        """The price of the greedy selector in the tree with so many times loop."""
        self._check_times(times)
        outer, loop, inner = self._sums
        return outer + times * loop + inner

    def cheapest_price(self, times):
        """The cheapest price of the tree with so many times loop."""
        self._check_times(times)
        return closing(self._powers.carried_many(self._outer_row, times), self._inner_row)

    def excess(self, times):
        """The excess of the tree with so many times loop."""
        return self.greedy_price(times) - self.cheapest_price(times)

    def first_times(self, number):
        """The least number of times with at least this excess."""
        if not is_count(number) or number > MAX_EXCESS:
            raise InvalidNumber(number)
        if self._rate[0] == 0:
            raise InvalidOperation("the rate is 0")
        outer, _, inner = self._sums
        most = outer + inner - number
        if closing(self._outer_row, self._inner_row) <= most:
            return 0
        return self._behind.first_below(self._outer_row, self._inner_row, most)

    def __eq__(self, other):
        return isinstance(other, Pump) and self._told == other._told and self._book == other._book

    def __str__(self):
        return f"pump of {len(self._outer)}, {len(self._loop)} and {len(self._inner)} places"

    def _work_out(self, joined):
        """Works out the prices of loop and the rate."""
        self._outer_row = joined.outer_row()
        self._inner_row = joined.inner_row()
        table = joined.loop_table(self._outer_row)
        price = self._sums[1]
        self._powers = Powers(table)
        # A length beyond the least one does no harm if a way may rest.
        self._behind = Powers(with_rests(table, price))
        both = [side for side in sorted(self._outer_row) if side in table[side]]
        self._loop_prices = tuple([(joined.spell(side), price, table[side][side]) for side in both])
        mean, many = least_mean(table)
        self._rate = coprime(price * many - mean, many)

    def _check_times(self, times):
        if not is_count(times) or times > MAX_TIMES:
            raise InvalidNumber(times)


def pump_of(book, parts, careful):
    """The pump of three values; None if they are none."""
    outer, loop, inner = parts
    try:
        return Pump(book, outer, loop, inner, careful=careful)
    except (InvalidTree, InvalidOperation):
        return None


def asked_states(book, tree, cover, careful):
    """The pair states at all places of a tree with the greedy selector's cover and the told one."""
    asked_walk(book, tree, cover, None)
    return Pairs(book, careful=careful).along(tree, cover)


def loops_in(book, tree, cover, *, careful=False):
    """All pairs of places, one above the other, that have the same pair state, ascending."""
    states = asked_states(book, tree, cover, careful)
    ends = ends_of(tree, book.operators.arities)
    places = {}
    for place, state in enumerate(states):
        places.setdefault(state, []).append(place)
    pairs = []
    for same in places.values():
        for at, above in enumerate(same):
            further = at + 1
            while further < len(same) and same[further] < ends[above]:
                pairs.append((above, same[further]))
                further += 1
    return tuple(sorted(pairs))


def is_loop(states, ends, pair):
    """Whether the value is a pair of places, one above the other, that have the same pair state."""
    if not isinstance(pair, tuple) or len(pair) != 2 or not all([is_count(place) for place in pair]):
        return False
    above, below = pair
    return above < below < len(states) and below < ends[above] and states[above] == states[below]


def cut_loop(book, tree, cover, pair, *, careful=False):
    """The tree and the cover in which the subtree at the upper place is the one at the lower place."""
    states = asked_states(book, tree, cover, careful)
    ends = ends_of(tree, book.operators.arities)
    if not is_loop(states, ends, pair):
        raise InvalidOperation("no pair of places with the same pair state, one above the other")
    above, below = pair
    behind, end = ends[above], ends[below]
    used = asked_walk(book, tree, cover, None).used
    kept = used[:above] + used[below:end] + used[behind:]
    return tree[:above] + tree[below:end] + tree[behind:], tuple([index for rules in kept for index in rules])
