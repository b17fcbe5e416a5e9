"""Trees of nodes that are shown step by step: an operator over shown trees of the nodes below."""

from munchbehind.base.trees import HOLE


class Shown:
    """A tree of a node, made by a step: a tuple (operator, nodes below, price, other price).

    Dear and cheap are the sums of both prices in the whole tree, and gain is their difference. Inside is the set of the
    nodes in it, as bits.
    """

    def __init__(self, node, step, lows):
        self.node = node
        self.operator = step[0]
        self.lows = lows
        self.dear = step[2]
        self.cheap = step[3]
        self.places = 1
        self.inside = 1 << node
        for low in lows:
            self.dear += low.dear
            self.cheap += low.cheap
            self.places += low.places
            self.inside |= low.inside
        self.gain = self.dear - self.cheap


def words_of(shown):
    """The tree that is shown."""
    words = []
    waiting = [shown]
    while waiting:
        made = waiting.pop()
        words.append(made.operator)
        waiting.extend(made.lows[::-1])
    return tuple(words)


def context_of(way):
    """The context that a way leads through: rows (operator, shown trees below, index of the one that it goes on in)."""
    ahead = []
    behind = []
    for operator, lows, at in way:
        ahead.append(operator)
        for low in lows[:at]:
            ahead.extend(words_of(low))
        for low in lows[at + 1:]:
            # What stands behind the hole is gathered from right to left.
            behind.extend(words_of(low)[::-1])
    return tuple(ahead) + (HOLE,) + tuple(behind[::-1])
