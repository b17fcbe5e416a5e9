"""Two contexts and a tree that are filled into one another, and the prices of covers in each of them."""

from munchbehind.base.asked import start_of
from munchbehind.base.patterns import ends_of
from munchbehind.base.trees import HOLE
from munchbehind.cover.alike import alike_of
from munchbehind.cover.walks import step_walk


def filled_times(outer, loop, inner, times):
    """Outer, so many times loop, and inner, each filled into the one before."""
    high, low = outer.index(HOLE), loop.index(HOLE)
    return outer[:high] + loop[:low] * times + inner + loop[low + 1:] * times + outer[high + 1:]


class Joined:
    """Outer filled with loop filled with inner: high is the place of loop, low that of inner."""

    def __init__(self, book, outer, loop, inner, careful):
        tree = filled_times(outer, loop, inner, 1)
        self.high = outer.index(HOLE)
        self.low = self.high + loop.index(HOLE)
        self._first = start_of(book, None)
        self._alike = alike_of(book, careful)
        self._groups, self._rises = self._alike.at_places(tree)
        self._ends = ends_of(tree, self._alike.numbered.arity)

    def pump_walk(self):
        """The walk of the greedy selector, None if this is no pump."""
        above, below = self._alike.group(self._groups[self.high]), self._alike.group(self._groups[self.low])
        if above.matches != below.matches or above.readies != below.readies:
            return None
        walk = step_walk(self._groups, self._first, self._alike.greedy_step)
        if walk.stuck is not None or walk.met[self.high] != walk.met[self.low]:
            return None
        return walk

    def spell(self, side):
        """A side by its number."""
        return self._alike.numbered.spelled[side]

    def sums(self, walk):
        """The three sums of the prices of a cover at the places of outer, loop and inner."""
        both = sum(walk.paid[self.high:self._ends[self.high]])
        inner = sum(walk.paid[self.low:self._ends[self.low]])
        return sum(walk.paid) - both, both - inner, inner

    def outer_row(self):
        """The least prices of covers of outer by sides at its hole."""
        return self._led({self._first: 0}, self._way(0, self.high))

    def loop_table(self, sides):
        """The least prices of covers of loop by sides above and at its hole, as far as some sides lead."""
        way = self._way(self.high, self.low)
        table = {}
        waiting = list(sides)
        while waiting:
            side = waiting.pop()
            if side not in table:
                table[side] = self._led({side: 0}, way)
                waiting.extend(table[side])
        return table

    def inner_row(self):
        """The least prices of covers of inner by sides."""
        row, rise = self._alike.group(self._groups[self.low]).cheap, self._rises[self.low]
        return {side: price + rise for side, price in row.items()}

    def _led(self, row, way):
        """The least prices by sides at the end of a way, made of those at its beginning."""
        found = row
        total = 0
        for group, beside, rise, on in way:
            total += rise
            below = {}
            for side, price in found.items():
                for low, more in self._alike.steps_down(group, beside, on, side):
                    if low not in below or price + more < below[low]:
                        below[low] = price + more
            found = below
        return {side: price + total for side, price in found.items()}

    def _way(self, start, end):
        """The way from a place down to one below it, as a list of tuples.

        They tell the group at a place, that of the subtree beside the way, 0 if there is none, the rise of its least
        prices, and whether the way goes on in the left subtree, 0, or in the right one, 1.
        """
        way = []
        at = start
        while at != end:
            child = at + 1
            behind = self._ends[child]
            if behind == self._ends[at]:
                way.append((self._groups[at], 0, 0, 0))
                at = child
            elif end < behind:
                way.append((self._groups[at], self._groups[behind], self._rises[behind], 0))
                at = child
            else:
                way.append((self._groups[at], self._groups[child], self._rises[child], 1))
                at = behind
        return way
