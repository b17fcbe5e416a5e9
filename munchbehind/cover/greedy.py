"""The greedy selector, and what a cover is like at each place."""

from munchbehind.base.asked import check_careful, side_of
from munchbehind.cover.laid import lay, tiles_of
from munchbehind.errors import InvalidKind, Stuck
from munchbehind.match.kinds import is_kind_form


def chosen(used, below, side, let):
    """What the greedy selector uses for a nonterminal: the triple (rules, price, part); None if it is stuck.

    Used and below are as in the numbered sides of a book, used in any order of the rules. Let is the set of the sides
    that a rule may lead to: of matched ones, or of ready ones for a careful selector.
    """
    rules = ()
    price = 0
    given = (side,)
    while True:
        found = first_fitting(used[given[-1]], given, let)
        if found is None:
            return None
        index, more, target = found
        rules += (index,)
        price += more
        if below[target] is not None:
            return rules, price, target
        given += (target,)


def first_fitting(used, given, let):
    """The first rule that fits, None if there is none."""
    for rule in used:
        if let >> rule[2] & 1 and rule[2] not in given:
            return rule
    return None


def pick(book, kind, nonterminal, *, careful=False):
    """The rules that the greedy selector uses for a nonterminal in a tree of a kind; None if it is stuck there."""
    if not is_kind_form(book, kind):
        raise InvalidKind("not the form of a kind")
    side = side_of(book, nonterminal)
    check_careful(careful)
    numbered = book.numbered_sides()
    parts = sum([1 << numbered.in_parts[index] for index in kind[1 if careful else 0]])
    let = numbered.with_covered(parts) if careful else parts + numbered.free
    found = chosen(numbered.used, numbered.below, side, let)
    return None if found is None else found[0]


def greedy_tiles(laid, careful):
    """The pair of the pairs (place, rule) that the greedy selector uses, and the place where it is stuck, or None."""
    sets = laid.sets(careful)
    found = []
    waiting = [(laid.first, 0)]
    while waiting:
        side, place = waiting.pop()
        way = chosen(laid.numbered.used, laid.numbered.below, side, sets[place])
        if way is None:
            return found, place
        found.extend([(place, index) for index in way[0]])
        waiting.extend(laid.leaves(way[2], place)[::-1])
    return found, None


def greedy(book, tree, *, careful=False, start=None):
    """The cover of the greedy selector."""
    found, place = greedy_tiles(lay(book, tree, start, careful), careful)
    if place is not None:
        raise Stuck(place)
    return tuple([index for _, index in found])


def stuck_at(book, tree, *, careful=False, start=None):
    """The first place at which the greedy selector is stuck; None if it is not."""
    _, place = greedy_tiles(lay(book, tree, start, careful), careful)
    return place


def greedy_price(book, tree, *, careful=False, start=None):
    """The price of the greedy selector's cover; None if it is stuck."""
    laid = lay(book, tree, start, careful)
    found, place = greedy_tiles(laid, careful)
    return None if place is not None else laid.price(found)


def excess(book, tree, *, careful=False, start=None):
    """How much dearer the greedy selector's cover is than the cheapest one; None if it is stuck."""
    laid = lay(book, tree, start, careful)
    found, place = greedy_tiles(laid, careful)
    return None if place is not None else laid.price(found) - laid.price_rows()[0][laid.first]


def sides_of(book, tree, cover, *, start=None):
    """The sides of a cover at all places."""
    laid = lay(book, tree, start)
    return tuple([laid.numbered.spelled[side] for side in laid.sides(tiles_of(laid, cover))])


def prices_at(book, tree, cover, *, start=None):
    """The prices of a cover at all places."""
    laid = lay(book, tree, start)
    return tuple(laid.prices(tiles_of(laid, cover)))
