"""Trees of each size with the greatest difference of both prices."""

from munchbehind.decide.shown import Shown


def gain_of(made):
    """The difference of both prices in the tree that a step makes, as a pair of the step and the shown trees below."""
    step, lows = made
    return step[2] - step[3] + sum([shown.gain for shown in lows])


def best_of(trees):
    """The one with the greatest difference of some shown trees."""
    return max(trees, key=lambda shown: shown.gain)


class Sized:
    """By nodes and sizes: a tree with the greatest difference of both prices, one size after the other.

    Steps tells by nodes how their trees are made, as tuples (operator, nodes below, price, other price).
    """

    def __init__(self, steps):
        self._size = 0
        self._best = [{} for _ in steps]
        self._pairs = {}
        self._plans = [self._planned(row) for row in steps]
        # By pairs of a node on the left and the nodes that may be on the right: the best one of these by sizes.
        self._rights = [{} for _ in self._pairs]

    def next_best(self, nodes):
        """The best tree of some nodes with the next size, beginning with 1; None if there is none."""
        self._size += 1
        self._grow(self._size)
        trees = [self._best[node][self._size] for node in nodes if self._size in self._best[node]]
        return best_of(trees) if trees else None

    def _planned(self, row):
        """The steps without subtrees, with one, and with two, as pairs (step, index of the pair)."""
        rights = {}
        for operator, below, price, other in row:
            if len(below) == 2:
                rights.setdefault((operator, below[0], price, other), []).append(below[1])
        twos = []
        for (operator, left, price, other), nodes in rights.items():
            at = self._pairs.setdefault((left, tuple(nodes)), len(self._pairs))
            twos.append(((operator, None, price, other), at))
        return [step for step in row if not step[1]], [step for step in row if len(step[1]) == 1], twos

    def _grow(self, size):
        """Finds the trees of a size; those of smaller sizes are there."""
        joined = [self._joined(left, self._rights[at], size - 1) for (left, _), at in self._pairs.items()]
        for node, (leaves, ones, twos) in enumerate(self._plans):
            found = [(step, []) for step in leaves] if size == 1 else []
            for step in ones:
                low = self._best[step[1][0]].get(size - 1)
                if low is not None:
                    found.append((step, [low]))
            found.extend([(step, joined[at]) for step, at in twos if joined[at] is not None])
            if found:
                step, lows = max(found, key=gain_of)
                self._best[node][size] = Shown(node, step, lows)
        for (_, nodes), at in self._pairs.items():
            rights = [self._best[node][size] for node in nodes if size in self._best[node]]
            if rights:
                self._rights[at][size] = best_of(rights)

    def _joined(self, left, rights, size):
        """The list of the best two subtrees with so many places together; None if there are none."""
        found = None
        most = None
        for places, shown in self._best[left].items():
            other = rights.get(size - places)
            if other is not None and (most is None or shown.gain + other.gain > most):
                most = shown.gain + other.gain
                found = [shown, other]
        return found


class Reached:
    """The least trees of nodes by what they gain, in the order of their sizes."""

    def __init__(self, steps):
        self._users = [[] for _ in steps]
        # By nodes: the trees that were met, each one with more places and a greater gain than the one before.
        self._met = [[] for _ in steps]
        # By sizes and nodes: the best one that is to be met.
        self._waiting = {}
        for node, row in enumerate(steps):
            for step in row:
                for low in sorted(set(step[1])):
                    self._users[low].append((node, step))
                if not step[1]:
                    self._wait_for(node, step, [])

    def first_with(self, nodes, number):
        """A tree of one of the nodes that gains at least a number, with as few places as possible, or None."""
        while self._waiting:
            row = self._waiting.pop(min(list(self._waiting)))
            for node, shown in row.items():
                if not self._met[node] or shown.gain > self._met[node][-1].gain:
                    if shown.gain >= number and node in nodes:
                        return shown
                    self._met[node].append(shown)
                    self._go_on(node, shown)
        return None

    def _go_on(self, node, shown):
        """Awaits the trees that are made of a tree and those that were met."""
        for user, step in self._users[node]:
            if len(step[1]) == 1:
                self._wait_for(user, step, [shown])
                continue
            left, right = step[1]
            if left == node:
                for other in self._met[right]:
                    self._wait_for(user, step, [shown, other])
            else:
                for other in self._met[left]:
                    self._wait_for(user, step, [other, shown])

    def _wait_for(self, node, step, lows):
        """Awaits a tree, if it is better than those of its node with as many places or fewer."""
        places = 1 + sum([low.places for low in lows])
        gain = gain_of((step, lows))
        if self._met[node] and self._met[node][-1].gain >= gain:
            return
        row = self._waiting.setdefault(places, {})
        if node not in row or row[node].gain < gain:
            row[node] = Shown(node, step, lows)
