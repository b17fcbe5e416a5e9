"""How many trees of a size there are, by the prices of their covers."""

from munchbehind.cover.alike import Alike

# Stands for a subtree that there is not.
NO_TREE = (0, 0, 0)


class Counted:
    """The trees of a size, those that are alike being counted together.

    All trees of the size are made step by step, so they should not be too many.
    """

    def __init__(self, numbered, careful, size):
        self._alike = Alike(numbered, careful)
        # By sizes: the numbers of trees, as told by their groups and the rises of both prices.
        self._counts = [{}]
        for places in range(1, size + 1):
            self._counts.append(self._grown(places))

    def prices(self, side):
        """The list of the least price and the greedy price from a side, None where there is none, and the number."""
        found = []
        for told, many in self._counts[-1].items():
            least, greedy = self._alike.prices(told, side)
            found.append((least, greedy, many))
        return found

    def _grown(self, places):
        """The numbers of the trees of a size, made of those of smaller sizes."""
        found = {}
        for operator, arity in self._alike.numbered.arity.items():
            for left, right, many in self._lows(arity, places):
                group, more, dearer = self._alike.over(operator, left[0], right[0])
                told = (group, left[1] + right[1] + more, left[2] + right[2] + dearer)
                found[told] = found.get(told, 0) + many
        return found

    def _lows(self, arity, places):
        """The list of all that an operator may stand over, with so many places together: two subtrees and a number."""
        if arity == 0:
            return [(NO_TREE, NO_TREE, 1)] if places == 1 else []
        if arity == 1:
            return [(left, NO_TREE, many) for left, many in self._counts[places - 1].items()]
        found = []
        for size in range(1, places - 1):
            others = list(self._counts[places - 1 - size].items())
            for left, many in self._counts[size].items():
                found.extend([(left, right, many * more) for right, more in others])
        return found
