"""Orders of the rules of a book, and what becomes of the greedy selector in them."""

from math import factorial

from munchbehind.base.asked import check_book, check_careful
from munchbehind.base.words import is_count
from munchbehind.decide.doubles import Doubles
from munchbehind.decide.gains import Gains, weigh_behind
from munchbehind.decide.met import Met
from munchbehind.decide.pairs import MAX_STATES
from munchbehind.decide.papers import greatest_start
from munchbehind.decide.shown import words_of
from munchbehind.decide.sized import Reached
from munchbehind.decide.stuck import is_met_never_stuck
from munchbehind.decide.useful import Useful
from munchbehind.errors import InvalidOperation, TooMany
from munchbehind.match.kinds import kind_table

MAX_ORDERS = 720


def check_order(book, order):
    """Refuses what is no order of the rules in which each one stands in the place of one of the same nonterminal."""
    many = len(book.rules)
    if not isinstance(order, tuple) or not all([is_count(index) for index in order]):
        raise InvalidOperation("no tuple of indices")
    if sorted(order) != list(range(many)):
        raise InvalidOperation("not each index once")
    if not all([book.rules[index][0] == book.rules[at][0] for at, index in enumerate(order)]):
        raise InvalidOperation("a rule in the place of one of another nonterminal")


def count_orders(book):
    """The number of all orders of a book."""
    check_book(book)
    many = 1
    for nonterminal in book.nonterminals:
        many = many * factorial(len(book.rules_of(nonterminal)))
    return many


def each_order(book):
    """Yields all orders of a book, ascending."""
    if count_orders(book) > MAX_ORDERS:
        raise TooMany(MAX_ORDERS)
    waiting = [()]
    while waiting:
        order = waiting.pop()
        if len(order) == len(book.rules):
            yield order
            continue
        # The last one that is put in is taken first.
        for index in reversed(book.rules_of(book.rules[len(order)][0])):
            if index not in order:
                waiting.append(order + (index,))


def met_in(book, order, careful):
    """What the greedy selector of a book in an order meets."""
    table = kind_table(book)
    used = [[] for _ in table.numbered.spelled]
    for index in order:
        side, price, target = table.numbered.ruled[index]
        used[side].append((index, price, target))
    return Met(table, used, table.numbered.numbers[(book.goal,)], careful)


def met_verdict(met):
    """The verdict on what is met."""
    useful = Useful(met, MAX_STATES)
    gains = Gains(useful.steps, weigh_behind)
    return is_met_never_stuck(met), None if gains.looped is not None else greatest_start(useful, gains)


def verdict(book, order, *, careful=False):
    """Whether the book in an order is never stuck, and its greatest excess, None if it is not bounded."""
    check_book(book)
    check_order(book, order)
    check_careful(careful)
    return met_verdict(met_in(book, order, careful))


def rank(told):
    """What is less for a better verdict."""
    never, most = told
    return not never, most is None, 0 if most is None else most


def best_orders(book, *, careful=False):
    """The best verdict of all orders, and all orders that have it, ascending."""
    check_book(book)
    check_careful(careful)
    orders = list(each_order(book))
    verdicts = {}
    found = []
    for order in orders:
        met = met_in(book, order, careful)
        # Orders in which the greedy selector goes on alike have the same verdict.
        choices = tuple(sorted(met.choices.items()))
        if choices not in verdicts:
            verdicts[choices] = met_verdict(met)
        found.append((rank(verdicts[choices]), order, verdicts[choices]))
    best = min(found)
    return best[2], tuple([order for told, order, _ in found if told == best[0]])


def asked_doubles(book, one, other, careful):
    """The double states of the two orders that are asked for."""
    check_book(book)
    check_order(book, one)
    check_order(book, other)
    check_careful(careful)
    return Doubles(met_in(book, one, careful), met_in(book, other, careful), MAX_STATES)


def lead(book, one, other, *, careful=False):
    """How much greater the price of the first order is at most than that of the second one; None if without a bound."""
    doubles = asked_doubles(book, one, other, careful)
    gains = Gains(doubles.steps, weigh_behind)
    return None if gains.looped is not None else greatest_start(doubles, gains)


def lead_tree(book, one, other, *, careful=False):
    """A tree in which the first order's price is greater, with as few places as possible; None if there is none."""
    doubles = asked_doubles(book, one, other, careful)
    gains = Gains(doubles.steps, weigh_behind)
    if gains.looped is None and greatest_start(doubles, gains) == 0:
        return None
    return words_of(Reached(doubles.steps).first_with(doubles.first_ones, 1))
