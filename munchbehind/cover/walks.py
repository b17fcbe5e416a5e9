"""Walks through trees: how a cover goes on at all places, from left to right."""

from munchbehind.base.words import is_count
from munchbehind.cover.alike import alike_of
from munchbehind.cover.laid import asked_side
from munchbehind.errors import InvalidCover


class Walk:
    """A walk of a cover: at all places the side that is met, the rules that are used, and what is paid for them.

    Stuck is the place where it cannot go on, None if it is whole.
    """

    def __init__(self):
        self.met = []
        self.used = []
        self.paid = []
        self.stuck = None

    def go(self, side, rules, price):
        """Goes on at the next place."""
        self.met.append(side)
        self.used.append(rules)
        self.paid.append(price)

    def cover(self):
        """The rules in the order of the cover."""
        return tuple([index for rules in self.used for index in rules])

    def tiles(self):
        """The pairs (place, rule) in the order of the cover."""
        return tuple([(place, index) for place, rules in enumerate(self.used) for index in rules])


def step_walk(groups, first, step_of):
    """The walk through a tree with some groups at its places, with the steps of groups and sides."""
    walk = Walk()
    waiting = [first]
    for place, group in enumerate(groups):
        side = waiting.pop()
        step = step_of(group, side)
        if step is None:
            walk.stuck = place
            break
        rules, price, below = step
        walk.go(side, rules, price)
        waiting.extend(below[::-1])
    return walk


def told_walk(numbered, tree, first, value):
    """The walk of a cover of a tree from a side, None if the value is no cover."""
    if not isinstance(value, tuple):
        return None
    walk = Walk()
    waiting = [first]
    at = 0
    for word in tree:
        side = waiting.pop()
        step = told_step(numbered, side, value, at)
        if step is None or numbered.spelled[step[2]][0] != word:
            return None
        rules, price, part = step
        at += len(rules)
        walk.go(side, rules, price)
        waiting.extend(numbered.below[part][::-1])
    return walk if at == len(value) else None


def told_step(numbered, side, value, at):
    """The rules that a tuple tells from an index on, their price, and the part that they lead to; None if to none."""
    price = 0
    given = (side,)
    end = at
    while numbered.below[given[-1]] is None:
        if end == len(value) or not is_count(value[end]) or value[end] >= len(numbered.ruled):
            return None
        start, more, target = numbered.ruled[value[end]]
        if start != given[-1] or target in given:
            return None
        price += more
        given += (target,)
        end += 1
    return value[at:end], price, given[-1]


def asked_greedy_walk(book, tree, start, careful):
    """The walk of the greedy selector through a tree that is asked for, if what is asked is right."""
    side = asked_side(book, tree, start, careful)
    alike = alike_of(book, careful)
    groups, _ = alike.at_places(tree)
    return step_walk(groups, side, alike.greedy_step)


def asked_cheap_walk(book, tree, start):
    """The walk of a cheapest cover, likewise."""
    side = asked_side(book, tree, start, False)
    alike = alike_of(book, False)
    groups, _ = alike.at_places(tree)
    return step_walk(groups, side, alike.cheap_step)


def asked_walk(book, tree, cover, start):
    """The walk of a cover that is told, likewise."""
    side = asked_side(book, tree, start, False)
    walk = told_walk(book.numbered_sides(), tree, side, cover)
    if walk is None:
        raise InvalidCover("no cover of the tree")
    return walk
