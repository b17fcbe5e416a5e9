"""Papers about the excess: how far the greedy selector is behind, for all trees at once."""

from munchbehind.base.kept import kept_answer
from munchbehind.base.trees import MAX_TREE
from munchbehind.base.words import is_count, is_integer
from munchbehind.decide.gains import Gains, weigh_behind
from munchbehind.decide.loops import pump_in
from munchbehind.decide.pairs import Pairs, useful_of
from munchbehind.decide.pumps import pump_of
from munchbehind.decide.shown import words_of
from munchbehind.errors import InvalidOperation, TooMany


def work_out_gains(book, careful):
    """What trees of the useful pair states of a book and a mode gain by the difference of both prices."""
    return Gains(useful_of(book, careful).steps, weigh_behind)


def gains_of(book, careful):
    """The pair of the useful pair states and the same, worked out once for each book."""
    useful = useful_of(book, careful)
    return useful, kept_answer(book, careful, work_out_gains)


def bounded_gains(book, careful):
    """The same, if the excess is bounded."""
    useful, gains = gains_of(book, careful)
    if gains.looped is not None:
        raise InvalidOperation("the excess is not bounded")
    return useful, gains


def spelled_bounds(useful, gains):
    """The dict from the useful pair states to their least bounds."""
    return {state: gains.best(at).gain for at, state in enumerate(useful.spelled)}


def greatest_start(useful, gains):
    """The greatest bound of the states with the goal on both sides; 0 if there is none."""
    return max([0] + [gains.best(at).gain for at in useful.first_ones])


def paper(book, *, careful=False):
    """A paper: with the least bounds, or with a loop in which the greedy selector falls behind."""
    useful, gains = gains_of(book, careful)
    if gains.looped is None:
        return "within", greatest_start(useful, gains), spelled_bounds(useful, gains)
    outer, loop, inner = pump_in(useful, gains, gains)
    return "behind", outer, loop, inner


def are_bounds(pairs, value):
    """Whether the value is a dict from just the useful pair states to integers."""
    if not isinstance(value, dict) or len(value) != len(pairs):
        return False
    return all([state in pairs and is_integer(bound) for state, bound in value.items()])


def is_kept(useful, told, above, below):
    """Whether all moves keep to bounds: below times the price less above times the other one counts."""
    least = [told[state] for state in useful.spelled]
    for at, row in enumerate(useful.steps):
        for _, lows, price, other in row:
            if below * price - above * other + sum([least[low] for low in lows]) > least[at]:
                return False
    return True


def is_paper(book, value, *, careful=False):
    """Whether the value is a paper."""
    useful = useful_of(book, careful)
    if not isinstance(value, tuple):
        return False
    if len(value) == 3 and value[0] == "within":
        return is_within(useful, Pairs(book, careful=careful), value)
    if len(value) == 4 and value[0] == "behind":
        pump = pump_of(book, value[1:], careful)
        return pump is not None and any([price > other for _, price, other in pump.loop_prices])
    return False


def is_within(useful, pairs, value):
    """Whether a triple is a paper of the first form, what it begins with aside."""
    _, most, told = value
    if not is_count(most) or not are_bounds(pairs, told):
        return False
    return is_kept(useful, told, 1, 1) and all([told[useful.spelled[at]] <= most for at in useful.first_ones])


def is_bounded(book, *, careful=False):
    """Whether the excess is bounded."""
    return gains_of(book, careful)[1].looped is None


def greatest_excess(book, *, careful=False):
    """The greatest excess of all trees; None if it is not bounded."""
    useful, gains = gains_of(book, careful)
    return None if gains.looped is not None else greatest_start(useful, gains)


def bounds(book, *, careful=False):
    """The dict of the least bounds of all useful pair states."""
    useful, gains = bounded_gains(book, careful)
    return spelled_bounds(useful, gains)


def worst_tree(book, *, careful=False):
    """A tree with the greatest excess, and with as few places as possible; None if no tree is covered."""
    useful, gains = bounded_gains(book, careful)
    if not useful.first_ones:
        return None
    trees = [gains.best(at) for at in useful.first_ones]
    worst = max(trees, key=lambda shown: (shown.gain, -shown.places))
    if worst.places > MAX_TREE:
        raise TooMany(MAX_TREE)
    return words_of(worst)
