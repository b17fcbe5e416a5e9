"""The greatest excesses of trees of told sizes."""

from munchbehind.base.asked import check_book
from munchbehind.base.words import is_count
from munchbehind.decide.counted import Counted
from munchbehind.decide.pairs import useful_of
from munchbehind.decide.papers import gains_of, greatest_start
from munchbehind.decide.shown import words_of
from munchbehind.decide.sized import Sized
from munchbehind.errors import InvalidNumber, TooMany

MAX_ASKED = 40
MAX_BEHIND = 50
MAX_LISTED = 20000


def asked_useful(book, number, least, most, careful):
    """The useful pair states, if what is asked for is right: a number in between, behind the book."""
    check_book(book)
    if not is_count(number) or not least <= number <= most:
        raise InvalidNumber(number)
    return useful_of(book, careful)


def worst_by_sizes(useful, size):
    """The list of the shown trees with the greatest excess for all sizes up to this one, None where there is none."""
    sized = Sized(useful.steps)
    return [sized.next_best(useful.first_ones) for _ in range(size)]


def greatest_by_sizes(book, size, *, careful=False):
    """The greatest excesses of trees with 1, 2, .., so many places, None where none is covered."""
    useful = asked_useful(book, size, 1, MAX_ASKED, careful)
    return tuple([None if shown is None else shown.gain for shown in worst_by_sizes(useful, size)])


def worst_of_size(book, size, *, careful=False):
    """A tree of a size with the greatest excess; None if none is covered."""
    useful = asked_useful(book, size, 1, MAX_ASKED, careful)
    shown = worst_by_sizes(useful, size)[-1]
    return None if shown is None else words_of(shown)


def least_behind(book, number, *, careful=False):
    """A tree whose excess is at least a number, with as few places as possible; None if there is none."""
    useful = asked_useful(book, number, 0, MAX_BEHIND, careful)
    _, gains = gains_of(book, careful)
    if not useful.first_ones or gains.looped is None and greatest_start(useful, gains) < number:
        return None
    sized = Sized(useful.steps)
    for _ in range(MAX_ASKED):
        shown = sized.next_best(useful.first_ones)
        if shown is not None and shown.gain >= number:
            return words_of(shown)
    raise TooMany(MAX_ASKED)


def listed_prices(book, size, careful):
    """The cheapest price, the greedy price and the number of all trees of a size, if they are not too many."""
    useful = asked_useful(book, size, 1, MAX_ASKED, careful)
    many = book.operators.count_trees(size)
    if many > MAX_LISTED:
        raise TooMany(MAX_LISTED)
    # Where there are trees, there are no more of a smaller size.
    return Counted(book.numbered_sides(), careful, size).prices(useful.met.goal_side) if many > 0 else []


def excess_counts(book, size, *, careful=False):
    """The numbers of the trees of a size that the greedy selector covers, by their excesses."""
    counts = {}
    for least, price, many in listed_prices(book, size, careful):
        if price is not None:
            counts[price - least] = counts.get(price - least, 0) + many
    return {behind: counts[behind] for behind in sorted(counts)}


def count_stuck(book, size, *, careful=False):
    """The number of the trees of a size that have a cover, but in which the greedy selector is stuck."""
    told = listed_prices(book, size, careful)
    return sum([many for least, price, many in told if price is None and least is not None])
