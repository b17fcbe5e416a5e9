"""The kinds of all trees of a book by numbers, and the steps that make them of one another."""

from munchbehind.base.sides import ANY


def parts_in(numbered, found):
    """The ascending tuple of the indices of the parts in a set of sides."""
    return tuple([index for index, side in enumerate(numbered.in_parts) if found >> side & 1])


def kinds_below(steps):
    """The lists of the kinds of the subtrees that steps tell of, from left to right."""
    lists = [{}, {}]
    for _, kinds in steps:
        for found, low in zip(lists, kinds):
            found[low] = True
    return [list(found) for found in lists]


class KindTable:
    """The kinds of all trees, numbered ascending.

    If there are more than the most that are let, it is cut off, and tells nothing else.
    """

    def __init__(self, numbered, most):
        self.numbered = numbered
        self.is_cut_off = False
        self._most = most
        self._found = {}
        self._pairs = []
        self._steps = []
        self._find()
        if not self.is_cut_off:
            self._put_in_order()

    def kinds_at(self, tree, ends):
        """The list of the numbers of the kinds at all places of a tree."""
        found = [0] * len(tree)
        for place in range(len(tree) - 1, -1, -1):
            operator = tree[place]
            arity = self.numbered.arity[operator]
            below = (found[place + 1],) if arity > 0 else ()
            if arity > 1:
                below = (found[place + 1], found[ends[place + 1]])
            found[place] = self.made[(operator, below)]
        return found

    def _find(self):
        arity = self.numbered.arity
        for operator in arity:
            if arity[operator] == 0:
                self._meet(operator, ())
        at = 0
        while at < len(self._pairs) and not self.is_cut_off:
            for operator in arity:
                if arity[operator] == 1:
                    self._meet(operator, (at,))
                if arity[operator] == 2:
                    self._meet_twos(operator, at)
            at += 1

    def _meet_twos(self, operator, at):
        """Meets a kind with itself and all earlier ones, on either side."""
        self._meet(operator, (at, at))
        for earlier in range(at):
            self._meet(operator, (earlier, at))
            self._meet(operator, (at, earlier))

    def _meet(self, operator, below):
        lefts = [self._pairs[low] for low in below] + [(ANY, ANY), (ANY, ANY)]
        (left, left_ready), (right, right_ready) = lefts[:2]
        matched = self.numbered.matched(operator, left, right)
        pair = (matched, self.numbered.ready(operator, left_ready, right_ready))
        if pair not in self._found:
            if len(self._pairs) == self._most:
                self.is_cut_off = True
                return
            self._found[pair] = len(self._pairs)
            self._pairs.append(pair)
        self._steps.append((self._found[pair], operator, below))

    def _put_in_order(self):
        """Numbers the kinds as they are spelled."""
        told = [(parts_in(self.numbered, matched), parts_in(self.numbered, ready)) for matched, ready in self._pairs]
        order = sorted(range(len(told)), key=lambda at: told[at])
        self.spelled = [told[at] for at in order]
        self.numbers = {kind: at for at, kind in enumerate(self.spelled)}
        self.matches = [self._pairs[at][0] for at in order]
        self.readies = [self._pairs[at][1] for at in order]
        self.steps = self._renumbered(order)
        self.made = {}
        for kind, steps in enumerate(self.steps):
            for step in steps:
                self.made[step] = kind
        self.lows = [kinds_below(steps) for steps in self.steps]

    def _renumbered(self, order):
        """The list of all steps by kinds, as pairs (operator, kinds below)."""
        now = {old: at for at, old in enumerate(order)}
        steps = [[] for _ in order]
        for made, operator, below in self._steps:
            steps[now[made]].append((operator, tuple([now[low] for low in below])))
        return steps
