"""How many trees of a size there are, by what is decisive of them: their kind, and the prices of their covers."""

from munchbehind.cover.laid import price_row

# Stands for the prices of a subtree that there is not.
NOTHING = {None: 0}


class Counted:
    """The trees of a size, counted by their prices from all sides.

    All trees of the size are made step by step, those that are alike at once, so they should not be too many.
    """

    def __init__(self, met, size):
        self._met = met
        self._choices = {}
        # By sizes: lists of tuples (kind, least prices, greedy prices, number of trees).
        self._groups = [[]]
        for places in range(1, size + 1):
            self._groups.append(self._grown(places))

    def prices(self):
        """The list of the least price and the greedy price from the goal, None if there is none, and the number."""
        goal = self._met.goal_side
        return [(least.get(goal), greedy.get(goal), many) for _, least, greedy, many in self._groups[-1]]

    def _grown(self, places):
        """The groups of trees of a size, made of those of smaller sizes."""
        found = {}
        for operator, arity in self._met.numbered.arity.items():
            for lows in self._lows(arity, places):
                many = 1
                for low in lows:
                    many = many * low[3]
                group = self._over(operator, lows)
                key = (group[0], tuple(group[1].items()), tuple(group[2].items()))
                found.setdefault(key, []).append((*group, many))
        return [(*groups[0][:3], sum([group[3] for group in groups])) for groups in found.values()]

    def _lows(self, arity, places):
        """The lists of as many groups as an operator has subtrees, with all places together but one."""
        if arity == 0:
            return [[]] if places == 1 else []
        if arity == 1:
            return [[low] for low in self._groups[places - 1]]
        found = []
        for size in range(1, places - 1):
            found.extend([[left, right] for left in self._groups[size] for right in self._groups[places - 1 - size]])
        return found

    def _over(self, operator, lows):
        """The kind, the least prices and the greedy prices of an operator over trees of some groups."""
        kind = self._met.table.made[(operator, tuple([low[0] for low in lows]))]
        left, right = [low[1] for low in lows] + [NOTHING] * (2 - len(lows))
        least = price_row(self._met.numbered, operator, left, right)
        left, right = [low[2] for low in lows] + [NOTHING] * (2 - len(lows))
        return kind, least, self._greedy_row(operator, kind, left, right)

    def _greedy_row(self, operator, kind, left, right):
        """By sides: the price of the greedy selector, for those from which it is not stuck."""
        row = {}
        for part, one, two in self._met.numbered.made[operator]:
            if one in left and two in right:
                row[part] = left[one] + right[two]
        for side in self._met.numbered.in_nonterminals:
            choice = self._choice(kind, side)
            if choice is not None and choice[1] in row:
                row[side] = row[choice[1]] + choice[0]
        return row

    def _choice(self, kind, side):
        node = (kind, side)
        if node not in self._choices:
            self._choices[node] = self._met.choice(node)
        return self._choices[node]
