"""The sides of a book by numbers, and what its rules make of them.

A set of sides is an integer, in which the bit of each of its numbers is set.
"""

from munchbehind.base.patterns import children_of

# Has the bits of all sides: it stands where an operator has no such subtree.
ANY = -1


class Sides:
    """The sides of a book, numbered ascending."""

    def __init__(self, arities, rules, parts, nonterminals):
        self.arity = arities
        self.spelled = sorted([*parts, *[(word,) for word in nonterminals]])
        self.numbers = {side: at for at, side in enumerate(self.spelled)}
        self.in_parts = [self.numbers[part] for part in parts]
        self.in_nonterminals = [self.numbers[(word,)] for word in nonterminals]
        self.below = [None] * len(self.spelled)
        for part in parts:
            self.below[self.numbers[part]] = [self.numbers[low] for low in children_of(part, arities)]
        self.ruled = [(self.numbers[(word,)], price, self.numbers[pattern]) for word, price, pattern in rules]
        self.used = self._used()
        self.ways = self._ways()
        self.least = self._least()
        self.made = self._made()
        self.needed = self._needed()
        self.leads = self._leads()
        self.free = sum([1 << side for side in self.in_nonterminals])

    def _used(self):
        """By sides: the rules of a nonterminal as triples (index, price, side of the pattern)."""
        used = [[] for _ in self.spelled]
        for index, (side, price, target) in enumerate(self.ruled):
            used[side].append((index, price, target))
        return used

    def _ways(self):
        """By sides: all ways from a nonterminal to parts, as triples (rules, price, part), ascending."""
        ways = [[] for _ in self.spelled]
        for start in self.in_nonterminals:
            waiting = [((), 0, (start,))]
            while waiting:
                rules, price, given = waiting.pop()
                for index, more, target in self.used[given[-1]]:
                    if self.below[target] is not None:
                        ways[start].append((rules + (index,), price + more, target))
                    elif target not in given:
                        waiting.append((rules + (index,), price + more, given + (target,)))
            ways[start] = sorted(ways[start])
        return ways

    def _least(self):
        """By sides: a cheapest way from a nonterminal to each part that there is one to."""
        least = []
        for ways in self.ways:
            best = {}
            for way in ways:
                if way[2] not in best or way[1] < best[way[2]][1]:
                    best[way[2]] = way
            least.append(list(best.values()))
        return least

    def _made(self):
        """By operators: the parts that begin with it, as triples of a part and the two sides below.

        None stands for a side that there is not.
        """
        made = {name: [] for name in self.arity}
        for part in self.in_parts:
            lows = [*self.below[part], None, None]
            made[self.spelled[part][0]].append((part, lows[0], lows[1]))
        return made

    def _needed(self):
        """By operators: the parts that begin with it, likewise, but as sets."""
        needed = {}
        for name, rows in self.made.items():
            needed[name] = [
                (1 << part, ANY if one is None else 1 << one, ANY if two is None else 1 << two)
                for part, one, two in rows
            ]
        return needed

    def _leads(self):
        """The list of the pairs of a nonterminal and the parts that there is a way to, all as sets."""
        return [(1 << side, sum([1 << way[2] for way in self.least[side]])) for side in self.in_nonterminals]

    def matched(self, operator, left, right):
        """The set of the parts that match a tree with an operator, and of all nonterminals.

        It is made of the sets of its subtrees, ANY where there is none.
        """
        return self._parts(operator, left, right) + self.free

    def ready(self, operator, left, right):
        """The set of the sides from which a tree has a cover, likewise."""
        return self.with_covered(self._parts(operator, left, right))

    def with_covered(self, parts):
        """A set of parts, and the nonterminals from which rules lead to one of them."""
        whole = parts
        for side, lead in self.leads:
            if parts & lead:
                whole += side
        return whole

    def ready_at(self, tree, ends):
        """The list of the sets of the sides from which there are covers, at all places of a tree."""
        found = [0] * len(tree)
        for place in range(len(tree) - 1, -1, -1):
            operator = tree[place]
            arity = self.arity[operator]
            left = found[place + 1] if arity > 0 else ANY
            right = found[ends[place + 1]] if arity > 1 else ANY
            found[place] = self.ready(operator, left, right)
        return found

    def _parts(self, operator, left, right):
        found = 0
        for part, one, two in self.needed[operator]:
            if left & one and right & two:
                found += part
        return found
