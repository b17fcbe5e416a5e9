"""The kinds of all trees of a book by numbers, and the steps that make them of one another."""


def parts_in(numbered, found):
    """The ascending tuple of the indices of the parts in a set of sides."""
    return tuple([index for index, side in enumerate(numbered.in_parts) if found >> side & 1])


def kinds_below(steps):
    """The lists of the kinds of the subtrees that steps tell of, from left to right."""
    lists = [{}, {}]
    for _, kinds in steps:
        for found, low in zip(lists, kinds):
            found[low] = True
    return [list(found) for found in lists]


def fitting(needed, at, found):
    """The set of the parts whose left subtree, for 1, or right one, for 2, is one of some sides."""
    return sum([row[0] for row in needed if row[at] & found])


class Search:
    """Finds the kinds of all trees, one after the other, until there are more than the most that are let.

    A kind is a pair of the sets of the sides that match, and of those that are ready. Steps are triples of the number
    of a kind, an operator, and the numbers of the kinds below.
    """

    def __init__(self, numbered, most):
        self.pairs = []
        self.steps = []
        self.is_cut_off = False
        self._numbered = numbered
        self._most = most
        self._found = {}
        # By operators and by kinds on the left, or on the right: the parts that fit, and those that are ready there.
        self._lefts = {operator: [] for operator in numbered.arity}
        self._rights = {operator: [] for operator in numbered.arity}
        self._find()

    def _find(self):
        arity, needed = self._numbered.arity, self._numbered.needed
        for operator in arity:
            if arity[operator] == 0:
                whole = sum([row[0] for row in needed[operator]])
                self._meet(operator, (), whole, whole)
        at = 0
        while at < len(self.pairs) and not self.is_cut_off:
            matched, ready = self.pairs[at]
            for operator in arity:
                if arity[operator] == 1:
                    rows = needed[operator]
                    self._meet(operator, (at,), fitting(rows, 1, matched), fitting(rows, 1, ready))
                if arity[operator] == 2:
                    self._meet_twos(operator, at)
            at += 1

    def _meet_twos(self, operator, at):
        """Meets a kind with itself and all earlier ones, on either side."""
        rows = self._numbered.needed[operator]
        matched, ready = self.pairs[at]
        lefts, rights = self._lefts[operator], self._rights[operator]
        left, left_ready = fitting(rows, 1, matched), fitting(rows, 1, ready)
        right, right_ready = fitting(rows, 2, matched), fitting(rows, 2, ready)
        self._meet(operator, (at, at), left & right, left_ready & right_ready)
        for earlier, (other, other_ready) in enumerate(lefts):
            self._meet(operator, (earlier, at), other & right, other_ready & right_ready)
        for earlier, (other, other_ready) in enumerate(rights):
            self._meet(operator, (at, earlier), left & other, left_ready & other_ready)
        lefts.append((left, left_ready))
        rights.append((right, right_ready))

    def _meet(self, operator, below, matched, ready):
        """Meets the kind of trees in which some parts match, and some of them are ready."""
        key = (matched, ready)
        if key not in self._found:
            if len(self.pairs) == self._most:
                self.is_cut_off = True
                return
            self._found[key] = len(self.pairs)
            self.pairs.append((matched + self._numbered.free, self._numbered.with_covered(ready)))
        self.steps.append((self._found[key], operator, below))


class KindTable:
    """The kinds of all trees, numbered ascending.

    If there are more than the most that are let, it is cut off, and tells nothing else.
    """

    def __init__(self, numbered, most):
        self.numbered = numbered
        search = Search(numbered, most)
        self.is_cut_off = search.is_cut_off
        if not self.is_cut_off:
            self._put_in_order(search)

    def kinds_at(self, tree, ends):
        """The list of the numbers of the kinds at all places of a tree."""
        found = [0] * len(tree)
        for place in range(len(tree) - 1, -1, -1):
            operator = tree[place]
            arity = self.numbered.arity[operator]
            below = (found[place + 1],) if arity > 0 else ()
            if arity > 1:
                below = (found[place + 1], found[ends[place + 1]])
            found[place] = self.made[(operator, below)]
        return found

    def _put_in_order(self, search):
        """Numbers the kinds as they are spelled."""
        numbered, pairs = self.numbered, search.pairs
        told = [(parts_in(numbered, matched), parts_in(numbered, ready)) for matched, ready in pairs]
        order = sorted(range(len(told)), key=lambda at: told[at])
        self.spelled = [told[at] for at in order]
        self.numbers = {kind: at for at, kind in enumerate(self.spelled)}
        self.matches = [pairs[at][0] for at in order]
        self.readies = [pairs[at][1] for at in order]
        now = {old: at for at, old in enumerate(order)}
        self.steps = [[] for _ in order]
        self.made = {}
        for made, operator, below in search.steps:
            step = (operator, tuple([now[low] for low in below]))
            self.steps[now[made]].append(step)
            self.made[step] = now[made]
        self.lows = [kinds_below(steps) for steps in self.steps]
