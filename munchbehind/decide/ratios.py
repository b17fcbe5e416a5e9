"""The ratio of both prices in the long run."""

from munchbehind.base.kept import kept_answer
from munchbehind.base.words import coprime, is_count
from munchbehind.decide.gains import Gains
from munchbehind.decide.loops import Loop, pump_in
from munchbehind.decide.pairs import Pairs, useful_of
from munchbehind.decide.papers import are_bounds, gains_of, is_kept
from munchbehind.decide.pumps import pump_of


def gains_by(useful, above, below):
    """What trees gain by below times the price less above times the other one, and then by fewer places."""
    return Gains(useful.steps, lambda dear, cheap, places: (below * dear - above * cheap, -places))


def tight_gains(useful, above, below):
    """The same, but then by higher prices: so loops gain if nothing is lost, and they cost something."""
    return Gains(useful.steps, lambda dear, cheap, places: (below * dear - above * cheap, dear))


def work_out_ratio(book, careful):
    """The ratio as a pair of coprime integers; (1, 0) if there is none."""
    useful, gains = gains_of(book, careful)
    if gains.looped is None:
        return (0, 1) if tight_gains(useful, 1, 1).looped is None else (1, 1)
    if tight_gains(useful, 1, 0).looped is not None:
        return 1, 0
    above, below = 1, 1
    while gains.looped is not None:
        # No loop is free in the other cover, so the fraction rises with each one that gains.
        loop = Loop(gains)
        above, below = coprime(loop.dear, loop.cheap)
        gains = gains_by(useful, above, below)
    return above, below


def ratio_of(book, careful):
    """The useful pair states and the two integers, worked out once for each book."""
    useful = useful_of(book, careful)
    above, below = kept_answer(book, careful, work_out_ratio)
    return useful, above, below


def ratio(book, *, careful=False):
    """The ratio, as a pair of coprime integers, (0, 1) for 0; None if there is none."""
    _, above, below = ratio_of(book, careful)
    return None if below == 0 else (above, below)


def ratio_paper(book, *, careful=False):
    """A ratio paper."""
    useful, above, below = ratio_of(book, careful)
    least = gains_by(useful, above, below)
    weigh = least.weigh
    bests = [least.best(at) for at in range(len(useful.spelled))]
    limits = [weigh(shown.dear, shown.cheap, shown.places)[0] for shown in bests]
    told = {state: limits[at] for at, state in enumerate(useful.spelled)}
    if above == 0:
        return "still", told
    outer, loop, inner = pump_in(useful, tight_gains(useful, above, below), least)
    return ("free", outer, loop, inner) if below == 0 else ("ratio", above, below, told, outer, loop, inner)


def is_ratio_paper(book, value, *, careful=False):
    """Whether the value is a ratio paper."""
    pairs = Pairs(book, careful=careful)
    useful = useful_of(book, careful)
    if not isinstance(value, tuple):
        return False
    if len(value) == 2 and value[0] == "still":
        return are_bounds(pairs, value[1]) and is_kept(useful, value[1], 0, 1)
    if len(value) == 4 and value[0] == "free":
        return is_loop_with(book, value[1:], careful, 1, 0)
    if len(value) == 7 and value[0] == "ratio":
        _, above, below, told = value[:4]
        if not are_coprime(above, below) or not are_bounds(pairs, told) or not is_kept(useful, told, above, below):
            return False
        return is_loop_with(book, value[4:], careful, above, below)
    return False


def are_coprime(above, below):
    """Whether both values are integers of at least 1 without a common divisor."""
    if not is_count(above) or not is_count(below) or above == 0 or below == 0:
        return False
    return coprime(above, below) == (above, below)


def is_loop_with(book, parts, careful, above, below):
    """Whether three values are a pump whose loop costs something, and at least above through below times the other."""
    pump = pump_of(book, parts, careful)
    if pump is None:
        return False
    return any([price >= 1 and below * price >= above * other for _, price, other in pump.loop_prices])
