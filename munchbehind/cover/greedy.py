"""The greedy selector, and what a cover is like at each place."""

from munchbehind.base.asked import check_careful, side_of
from munchbehind.cover.alike import asked_prices
from munchbehind.cover.choice import chosen
from munchbehind.cover.walks import asked_greedy_walk, asked_walk
from munchbehind.errors import InvalidKind, Stuck
from munchbehind.match.kinds import is_kind_form


def pick(book, kind, nonterminal, *, careful=False):
    """The rules that the greedy selector uses for a nonterminal in a tree of a kind; None if it is stuck there."""
    if not is_kind_form(book, kind):
        raise InvalidKind("not the form of a kind")
    side = side_of(book, nonterminal)
    check_careful(careful)
    numbered = book.numbered_sides()
    parts = sum([1 << numbered.in_parts[index] for index in kind[1 if careful else 0]])
    let = numbered.with_covered(parts) if careful else parts + numbered.free
    found = chosen(numbered.used, numbered.below, side, let)
    return None if found is None else found[0]


def greedy(book, tree, *, careful=False, start=None):
    """The cover of the greedy selector."""
    walk = asked_greedy_walk(book, tree, start, careful)
    if walk.stuck is not None:
        raise Stuck(walk.stuck)
    return walk.cover()


def stuck_at(book, tree, *, careful=False, start=None):
    """The first place at which the greedy selector is stuck; None if it is not."""
    return asked_greedy_walk(book, tree, start, careful).stuck


def greedy_price(book, tree, *, careful=False, start=None):
    """The price of the greedy selector's cover; None if it is stuck."""
    return asked_prices(book, tree, start, careful)[1]


def excess(book, tree, *, careful=False, start=None):
    """How much dearer the greedy selector's cover is than the cheapest one; None if it is stuck."""
    least, price = asked_prices(book, tree, start, careful)
    return None if price is None else price - least


def sides_of(book, tree, cover, *, start=None):
    """The sides of a cover at all places."""
    walk = asked_walk(book, tree, cover, start)
    spelled = book.numbered_sides().spelled
    return tuple([spelled[side] for side in walk.met])


def prices_at(book, tree, cover, *, start=None):
    """The prices of a cover at all places."""
    return tuple(asked_walk(book, tree, cover, start).paid)
