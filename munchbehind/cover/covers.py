"""Covers of a tree: their prices, their number, and their order."""

from munchbehind.base.asked import check_book, side_of
from munchbehind.base.words import is_count
from munchbehind.cover.alike import asked_prices
from munchbehind.cover.laid import asked_side, lay
from munchbehind.cover.walks import asked_cheap_walk, asked_walk, told_walk
from munchbehind.errors import InvalidNumber, NotCovered


def is_cover(book, tree, value, *, start=None):
    """Whether the value is a cover of the tree."""
    side = asked_side(book, tree, start, False)
    return told_walk(book.numbered_sides(), tree, side, value) is not None


def cover_price(book, tree, cover, *, start=None):
    """The price of a cover."""
    return sum(asked_walk(book, tree, cover, start).paid)


def tiles(book, tree, cover, *, start=None):
    """The pairs (place, index of the rule) of a cover, in its order."""
    return asked_walk(book, tree, cover, start).tiles()


def cheapest(book, tree, *, start=None):
    """A cover with the least price."""
    walk = asked_cheap_walk(book, tree, start)
    if walk.stuck is not None:
        raise NotCovered(tree)
    return walk.cover()


def cheapest_price(book, tree, *, start=None):
    """The least price of a cover; None if there is none."""
    return asked_prices(book, tree, start)[0]


def count_covers(book, tree, *, start=None):
    """The number of all covers."""
    laid = lay(book, tree, start)
    return laid.count_rows()[0].get(laid.first, 0)


def each_cover(book, tree, *, start=None):
    """Yields all covers, ascending."""
    laid = lay(book, tree, start)
    ready = laid.ready_sides()
    # What is done and what is to be done are rows of pairs, each with the next one in it.
    waiting = [(None, ((laid.first, 0), None))]
    while waiting:
        done, ahead = waiting.pop()
        if ahead is None:
            yield told_rules(done)
            continue
        (side, place), behind = ahead
        # The last one that is put in is taken first.
        for rules, _, part in reversed(laid.numbered.ways[side]):
            if ready[place] >> part & 1:
                waiting.append(((rules, done), put_ahead(laid.leaves(part, place), behind)))


def told_rules(done):
    """The cover whose rules were told one row after the other, the last row first."""
    rows = []
    rest = done
    while rest is not None:
        rules, rest = rest
        rows.append(rules)
    return tuple([index for row in reversed(rows) for index in row])


def put_ahead(leaves, behind):
    """A row of pairs that begins with some leaves."""
    row = behind
    for leaf in reversed(leaves):
        row = (leaf, row)
    return row


def cover_at(book, tree, number, *, start=None):
    """The cover with a number among all covers, ascending."""
    laid = lay(book, tree, start)
    rows = laid.count_rows()
    if not is_count(number) or number >= rows[0].get(laid.first, 0):
        raise InvalidNumber(number)
    cover = []
    waiting = [(laid.first, 0, number)]
    while waiting:
        side, place, rest = waiting.pop()
        rules, part, rest = way_at(laid.numbered.ways[side], rows[place], rest)
        cover.extend(rules)
        for low, at in reversed(laid.leaves(part, place)):
            rest, share = divmod(rest, rows[at][low])
            waiting.append((low, at, share))
    return tuple(cover)


def way_at(ways, row, number):
    """The rules and the part of the way that the cover with a number begins with, and its number among these."""
    at = 0
    while number >= row.get(ways[at][2], 0):
        number -= row.get(ways[at][2], 0)
        at += 1
    return ways[at][0], ways[at][2], number


def number_of_cover(book, tree, cover, *, start=None):
    """The number of a cover among all covers, ascending."""
    walk = asked_walk(book, tree, cover, start)
    laid = lay(book, tree, start)
    rows = laid.count_rows()
    numbers = []
    for place in range(len(tree) - 1, -1, -1):
        rules = walk.used[place]
        if rules:
            number = 0
            for low, at in laid.leaves(laid.numbered.ruled[rules[-1]][2], place):
                number = number * rows[at][low] + numbers.pop()
            for told, _, other in laid.numbered.ways[walk.met[place]]:
                if told < rules:
                    number += rows[place].get(other, 0)
            numbers.append(number)
    return numbers[0]


def chain_price(book, one, other):
    """The least price of chain rules that lead from a nonterminal to another one; None if there are none."""
    check_book(book)
    start, end = side_of(book, one), side_of(book, other)
    numbered = book.numbered_sides()
    prices = {start: 0}
    waiting = [start]
    while waiting:
        side = waiting.pop()
        for _, price, target in numbered.used[side]:
            total = prices[side] + price
            if numbered.below[target] is None and (target not in prices or total < prices[target]):
                prices[target] = total
                waiting.append(target)
    return prices.get(end)
