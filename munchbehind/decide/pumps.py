"""Pumps: trees with a part that can be repeated."""

from munchbehind.base.asked import check_book, check_careful, check_tree
from munchbehind.base.trees import HOLE, MAX_TREE
from munchbehind.base.words import coprime, is_count
from munchbehind.cover.greedy import greedy_tiles
from munchbehind.cover.laid import Laid, tiles_of
from munchbehind.decide.pairs import Pairs
from munchbehind.decide.ways import Powers, closing, least_mean, with_rests
from munchbehind.errors import InvalidNumber, InvalidOperation, InvalidTree, TooMany

MAX_TIMES = 10 ** 18
MAX_EXCESS = 1000


def check_pump(book, outer, loop, inner, careful):
    """Refuses what cannot be asked for, whether or not it is a pump."""
    check_book(book)
    ops = book.operators
    if not ops.is_context(outer) or not ops.is_context(loop) or not ops.is_tree(inner):
        raise InvalidTree("no two contexts and a tree for the operators of the book")
    check_careful(careful)


def filled_times(outer, loop, inner, times):
    """Outer, so many times loop, and inner, each filled into the one before."""
    high, low = outer.index(HOLE), loop.index(HOLE)
    return outer[:high] + loop[:low] * times + inner + loop[low + 1:] * times + outer[high + 1:]


class Joined:
    """Outer filled with loop filled with inner: high is the place of loop, low that of inner."""

    def __init__(self, book, outer, loop, inner):
        self.laid = Laid(book, filled_times(outer, loop, inner, 1), None)
        self.high = outer.index(HOLE)
        self.low = self.high + loop.index(HOLE)

    def pump_tiles(self, careful):
        """The pairs (place, rule) that the greedy selector uses, None if this is no pump."""
        matched, ready = self.laid.sets(False), self.laid.sets(True)
        if matched[self.high] != matched[self.low] or ready[self.high] != ready[self.low]:
            return None
        found, place = greedy_tiles(self.laid, careful)
        if place is not None:
            return None
        sides = self.laid.sides(found)
        return found if sides[self.high] == sides[self.low] else None

    def sums(self, tiles):
        """The three sums of the prices of a cover at the places of outer, loop and inner."""
        prices = self.laid.prices(tiles)
        both = sum(prices[self.high:self.laid.ends[self.high]])
        inner = sum(prices[self.low:self.laid.ends[self.low]])
        return sum(prices) - both, both - inner, inner

    def outer_row(self, rows):
        """The least prices of covers of outer by sides at its hole."""
        return self._led({self.laid.first: 0}, rows, 0, self.high)

    def loop_table(self, rows, sides):
        """The least prices of covers of loop by sides above and at its hole, as far as some sides lead."""
        table = {}
        waiting = list(sides)
        while waiting:
            side = waiting.pop()
            if side not in table:
                table[side] = self._led({side: 0}, rows, self.high, self.low)
                waiting.extend(table[side])
        return table

    def _led(self, row, rows, start, end):
        """The least prices by sides at a place, made of those at a place above."""
        found = row
        at = start
        while at != end:
            child = at + 1
            other = self.laid.ends[child]
            is_left = end < other
            found = self._led_down(found, rows, at, is_left)
            at = child if is_left else other
        return found

    def _led_down(self, row, rows, at, is_left):
        """The least prices by sides at the left or right subtree of a place; rows tell those of whole subtrees."""
        below = self.laid.numbered.below
        found = {}
        for part, price in self._in_parts(row, rows[at]).items():
            low = below[part][0 if is_left else 1]
            if len(below[part]) == 2:
                beside = self.laid.ends[at + 1] if is_left else at + 1
                price += rows[beside][below[part][1 if is_left else 0]]
            if low not in found or price < found[low]:
                found[low] = price
        return found

    def _in_parts(self, row, own):
        """The least prices by parts, of a row by sides; own tells which parts lead to covers."""
        numbered = self.laid.numbered
        found = {}
        for side, price in row.items():
            ways = [((), 0, side)] if numbered.below[side] is not None else numbered.least[side]
            for _, more, part in ways:
                if part in own and (part not in found or price + more < found[part]):
                    found[part] = price + more
        return found


def is_pump(book, outer, loop, inner, *, careful=False):
    """Whether two contexts and a tree are a pump."""
    check_pump(book, outer, loop, inner, careful)
    return Joined(book, outer, loop, inner).pump_tiles(careful) is not None


class Pump:
    """Two contexts and a tree, the second context being repeated. It never changes."""

    def __init__(self, book, outer, loop, inner, *, careful=False):
        check_pump(book, outer, loop, inner, careful)
        joined = Joined(book, outer, loop, inner)
        found = joined.pump_tiles(careful)
        if found is None:
            raise InvalidOperation("no pump")
        self._book = book
        self._outer = outer
        self._loop = loop
        self._inner = inner
        self._careful = careful
        self._told = (outer, loop, inner, careful)
        self._side = joined.laid.numbered.spelled[joined.laid.sides(found)[joined.high]]
        self._sums = joined.sums(found)
        self._work_out(joined)

    @property
    def book(self):
        """The book."""
        return self._book

    @property
    def outer(self):
        """The outer context."""
        return self._outer

    @property
    def loop(self):
        """The context that is repeated."""
        return self._loop

    @property
    def inner(self):
        """The inner tree."""
        return self._inner

    @property
    def is_careful(self):
        """Whether the greedy selector is a careful one."""
        return self._careful

    @property
    def side(self):
        """The side of the greedy selector at the holes."""
        return self._side

    @property
    def loop_prices(self):
        """The triples of a side at both holes, and the prices of loop by the greedy selector and by another cover."""
        return self._loop_prices

    @property
    def rate(self):
        """The limit of the excess by times, as a pair of coprime integers."""
        return self._rate

    def tree(self, times):
        """The tree with so many times loop."""
        self._check_times(times)
        if len(self._outer) - 1 + times * (len(self._loop) - 1) + len(self._inner) > MAX_TREE:
            raise TooMany(MAX_TREE)
        return filled_times(self._outer, self._loop, self._inner, times)

    def greedy_price(self, times):
        """The price of the greedy selector in the tree with so many times loop."""
        self._check_times(times)
        outer, loop, inner = self._sums
        return outer + times * loop + inner

    def cheapest_price(self, times):
        """The cheapest price of the tree with so many times loop."""
        self._check_times(times)
        return closing(self._powers.carried_many(self._outer_row, times), self._inner_row)

    def excess(self, times):
        """The excess of the tree with so many times loop."""
        return self.greedy_price(times) - self.cheapest_price(times)

    def first_times(self, number):
        """The least number of times with at least this excess."""
        if not is_count(number) or number > MAX_EXCESS:
            raise InvalidNumber(number)
        if self._rate[0] == 0:
            raise InvalidOperation("the rate is 0")
        outer, _, inner = self._sums
        most = outer + inner - number
        if closing(self._outer_row, self._inner_row) <= most:
            return 0
        return self._behind.first_below(self._outer_row, self._inner_row, most)

    def __eq__(self, other):
        return isinstance(other, Pump) and self._told == other._told and self._book == other._book

    def __str__(self):
        return f"pump of {len(self._outer)}, {len(self._loop)} and {len(self._inner)} places"

    def _work_out(self, joined):
        """Works out the prices of loop and the rate."""
        rows = joined.laid.price_rows()
        self._outer_row = joined.outer_row(rows)
        self._inner_row = rows[joined.low]
        table = joined.loop_table(rows, self._outer_row)
        price = self._sums[1]
        self._powers = Powers(table)
        # A length beyond the least one does no harm if a way may rest.
        self._behind = Powers(with_rests(table, price))
        both = [side for side in sorted(self._outer_row) if side in table[side]]
        spelled = joined.laid.numbered.spelled
        self._loop_prices = tuple([(spelled[side], price, table[side][side]) for side in both])
        mean, many = least_mean(table)
        self._rate = coprime(price * many - mean, many)

    def _check_times(self, times):
        if not is_count(times) or times > MAX_TIMES:
            raise InvalidNumber(times)


def pump_of(book, parts, careful):
    """The pump of three values; None if they are none."""
    outer, loop, inner = parts
    try:
        return Pump(book, outer, loop, inner, careful=careful)
    except (InvalidTree, InvalidOperation):
        return None


def asked_states(book, tree, cover, careful):
    """The pair states at all places of a tree with the greedy selector's cover and the told one."""
    check_book(book)
    check_tree(book, tree)
    tiles_of(Laid(book, tree, None), cover)
    return Pairs(book, careful=careful).along(tree, cover)


def loops_in(book, tree, cover, *, careful=False):
    """All pairs of places, one above the other, that have the same pair state, ascending."""
    states = asked_states(book, tree, cover, careful)
    ends = Laid(book, tree, None).ends
    places = {}
    for place, state in enumerate(states):
        places.setdefault(state, []).append(place)
    pairs = []
    for same in places.values():
        for at, above in enumerate(same):
            further = at + 1
            while further < len(same) and same[further] < ends[above]:
                pairs.append((above, same[further]))
                further += 1
    return tuple(sorted(pairs))


def is_loop(states, ends, pair):
    """Whether the value is a pair of places, one above the other, that have the same pair state."""
    if not isinstance(pair, tuple) or len(pair) != 2 or not all([is_count(place) for place in pair]):
        return False
    above, below = pair
    return above < below < len(states) and below < ends[above] and states[above] == states[below]


def cut_loop(book, tree, cover, pair, *, careful=False):
    """The tree and the cover in which the subtree at the upper place is the one at the lower place."""
    states = asked_states(book, tree, cover, careful)
    laid = Laid(book, tree, None)
    if not is_loop(states, laid.ends, pair):
        raise InvalidOperation("no pair of places with the same pair state, one above the other")
    above, below = pair
    behind, end = laid.ends[above], laid.ends[below]
    kept = [
        index for place, index in laid.tiles(cover)
        if place < above or below <= place < end or place >= behind
    ]
    return tree[:above] + tree[below:end] + tree[behind:], tuple(kept)
