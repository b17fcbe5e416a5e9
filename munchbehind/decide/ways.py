"""Least prices of ways through loops, from sides to sides.

A row is a dict from sides to prices; a table is a dict from sides to rows.
"""

from munchbehind.base.words import coprime


def carried(row, table):
    """The least prices of a way that a row tells and one more that a table tells."""
    found = {}
    for side, price in row.items():
        for low, more in table[side].items():
            if low not in found or price + more < found[low]:
                found[low] = price + more
    return found


def doubled(table):
    """The table of the ways that are twice as long."""
    return {side: carried(table[side], table) for side in table}


def closing(row, last):
    """The least price of a way that a row tells, and of what comes last."""
    return min([price + last[side] for side, price in row.items()])


def with_rests(table, less):
    """The table of the ways with prices less a number, and of staying where one is for nothing."""
    found = {}
    for side, row in table.items():
        found[side] = {low: price - less for low, price in row.items()}
        found[side][side] = min(0, found[side].get(side, 0))
    return found


class Powers:
    """Ways of any length by a table."""

    def __init__(self, table):
        self._tables = [table]

    def carried_many(self, row, many):
        """The least prices of a way that a row tells and so many more that the table tells."""
        found = row
        at = 0
        rest = many
        while rest > 0:
            if rest & 1:
                found = carried(found, self._table(at))
            rest >>= 1
            at += 1
        return found

    def first_below(self, row, last, most):
        """The least length of ways, at least 1, with which the least price is at most this.

        More ways must not make it greater, and one length has to lead there.
        """
        at = 0
        while closing(carried(row, self._table(at)), last) > most:
            at += 1
        found = row
        many = 0
        for exponent in range(at - 1, -1, -1):
            longer = carried(found, self._table(exponent))
            if closing(longer, last) > most:
                found = longer
                many += 1 << exponent
        return many + 1

    def _table(self, at):
        while len(self._tables) <= at:
            self._tables.append(doubled(self._tables[-1]))
        return self._tables[at]


def least_mean(table):
    """The least mean price of a way that leads round, as a pair of coprime integers."""
    rows = [{side: 0 for side in table}]
    for _ in table:
        rows.append(carried(rows[-1], table))
    many = len(table)
    best = None
    for side, price in rows[-1].items():
        # Of the ways to this side, the one that falls behind most tells a mean that is not too small.
        worst = None
        for length in range(many):
            if side in rows[length]:
                worst = greater_mean(worst, (price - rows[length][side], many - length))
        if best is None or worst[0] * best[1] < best[0] * worst[1]:
            best = worst
    return coprime(*best)


def greater_mean(one, other):
    """The greater one of two fractions, the second one if the first one is None."""
    if one is None or one[0] * other[1] < other[0] * one[1]:
        return other
    return one
