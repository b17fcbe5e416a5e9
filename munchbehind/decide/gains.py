"""The greatest gains of trees, found step by step."""

from collections import deque

from munchbehind.decide.shown import Shown
from munchbehind.match.least import Least


def weigh_behind(dear, cheap, places):
    """What a tree gains by a greater difference of both prices, and then by fewer places."""
    return dear - cheap, -places


class Gains:
    """The greatest gains of trees of all nodes; or a loop that gains, if there is one.

    Steps tells by nodes how their trees are made, as tuples (operator, nodes below, price, other price); each node has
    a tree. Weigh makes a pair of the sums of both prices in a tree and of its number of places. The pairs of parts of a
    tree add up to that of the tree, and they are compared as pairs.

    Found tells by nodes the trees that were found, the first one with as few places as possible, each one better than
    the one before it. Looped is a better tree of a node with an earlier one of the same node in it, or None.
    """

    def __init__(self, steps, weigh):
        self.weigh = weigh
        self.looped = None
        self._rows = [(node, step, weigh(step[2], step[3], 1)) for node, row in enumerate(steps) for step in row]
        self.found = [[] for _ in steps]
        self._gains = [0] * len(steps)
        self._seconds = [0] * len(steps)
        order = self._begin()
        self._improve(order)

    def best(self, node):
        """The tree of a node with the greatest gain."""
        return self.found[node][-1]

    def _begin(self):
        """Finds a tree of each node; returns the nodes in the order of the sizes of these."""
        least = Least([(node, at, step[1]) for at, (node, step, _) in enumerate(self._rows)])
        for node in least.sizes:
            _, at, below = least.made_by[node]
            self._put(node, Shown(node, self._rows[at][1], [self.best(low) for low in below]))
        return list(least.sizes)

    def _improve(self, order):
        """Looks for better trees, until there are none, or one has an earlier one of the same node in it.

        There is such a one if trees of a node get better and better. What leads from it to the earlier one gains then.
        """
        users = [[] for _ in order]
        for at, (_, step, _) in enumerate(self._rows):
            for low in sorted(set(step[1])):
                users[low].append(at)
            if not step[1]:
                self._try(at)
        waiting = deque(order)
        awaited = [True] * len(order)
        while waiting and self.looped is None:
            low = waiting.popleft()
            awaited[low] = False
            for at in users[low]:
                node = self._rows[at][0]
                if self._try(at) and not awaited[node]:
                    awaited[node] = True
                    waiting.append(node)

    def _try(self, at):
        """Whether a step makes a better tree of its node."""
        node, step, (gain, other) = self._rows[at]
        for low in step[1]:
            gain += self._gains[low]
            other += self._seconds[low]
        if gain < self._gains[node] or gain == self._gains[node] and other <= self._seconds[node]:
            return False
        lows = [self.best(low) for low in step[1]]
        if self.looped is None and any([low.inside >> node & 1 for low in lows]):
            self.looped = Shown(node, step, lows)
        self._put(node, Shown(node, step, lows))
        return True

    def _put(self, node, shown):
        weigh = self.weigh
        self.found[node].append(shown)
        self._gains[node], self._seconds[node] = weigh(shown.dear, shown.cheap, shown.places)
