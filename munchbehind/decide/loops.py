"""Loops that gain, and the ways that lead to them."""

from collections import deque
from heapq import heappop, heappush

from munchbehind.decide.shown import context_of, words_of


def way_round(top):
    """The way from a shown tree down to a nearest one of the same node, as a list of pairs (tree, index below)."""
    came = {}
    waiting = deque([top])
    while waiting:
        shown = waiting.popleft()
        for at, low in enumerate(shown.lows):
            if low.node == top.node:
                return way_up(came, shown, at)
            if low.inside >> top.node & 1 and low not in came:
                came[low] = (shown, at)
                waiting.append(low)
    return []


def way_up(came, shown, at):
    """The way down to the tree below a shown one at an index; came tells what each tree on it is below."""
    way = [(shown, at)]
    while way[-1][0] in came:
        way.append(came[way[-1][0]])
    return way[::-1]


class Loop:
    """A loop that gains: a way that leads from a node to the same one, with trees beside it.

    Rows are tuples of an operator, the list of the shown trees below, and the index of the one that the way goes on in.
    Dear and cheap are the sums of both prices in the loop, the trees beside the way included.
    """

    def __init__(self, gains):
        top = gains.looped
        way = way_round(top)
        last, index = way[-1]
        bottom = last.lows[index]
        self.node = top.node
        self.rows = [(shown.operator, list(shown.lows), at) for shown, at in way]
        self.dear = top.dear - bottom.dear
        self.cheap = top.cheap - bottom.cheap
        self.places = top.places - bottom.places

    def shrink(self, gains, small):
        """Puts smaller trees beside the way as long as the loop gains, first in the place of the greatest ones.

        They are those that were found, and those that gain most in small.
        """
        beside = []
        for row, (_, lows, on) in enumerate(self.rows):
            beside.extend([(-low.places, row, at) for at, low in enumerate(lows) if at != on])
        for _, row, at in sorted(beside):
            lows = self.rows[row][1]
            node = lows[at].node
            self._replace(gains.weigh, lows, at, [*gains.found[node], small.best(node)])

    def _replace(self, weigh, lows, at, others):
        """Puts the smallest tree with which the loop gains in the place of one of the trees beside the way."""
        old = lows[at]
        for new in sorted(others, key=lambda shown: shown.places):
            dear = self.dear - old.dear + new.dear
            cheap = self.cheap - old.cheap + new.cheap
            places = self.places - old.places + new.places
            if weigh(dear, cheap, places) > (0, 0):
                lows[at] = new
                self.dear, self.cheap, self.places = dear, cheap, places
                return


def way_to(steps, gains, first_ones, target):
    """A way from one of the first nodes to a node with as few places as possible, as rows like those of a loop."""
    came = {}
    least = {node: 0 for node in first_ones}
    queue = [(0, node) for node in first_ones]
    while queue:
        places, node = heappop(queue)
        if places > least[node]:
            continue
        for step in steps[node]:
            lows = [gains.found[low][0] for low in step[1]]
            whole = places + 1 + sum([low.places for low in lows])
            for at, low in enumerate(step[1]):
                size = whole - lows[at].places
                if low not in least or size < least[low]:
                    least[low] = size
                    came[low] = (node, (step[0], lows, at))
                    heappush(queue, (size, low))
    way = []
    at = target
    while at in came:
        at, row = came[at]
        way.append(row)
    return way[::-1]


def pump_in(useful, gains, small):
    """The outer context, the loop and the inner tree of a loop that gains, with small trees."""
    loop = Loop(gains)
    loop.shrink(gains, small)
    outer = context_of(way_to(useful.steps, gains, useful.first_ones, loop.node))
    return outer, context_of(loop.rows), words_of(gains.found[loop.node][0])
