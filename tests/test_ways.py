"""Least prices of ways of many steps, by plain steps (11.1, 11.2)."""

import unittest
from fractions import Fraction
from itertools import permutations
from random import Random

from munchbehind.decide.ways import Powers, carried, closing, least_mean, with_rests
from tests.timed import TimedTest


def random_table(rng):
    """A table of a few sides, from each of which there is a way."""
    sides = range(rng.randint(1, 5))
    table = {}
    for side in sides:
        lows = rng.sample(list(sides), rng.randint(1, len(sides)))
        table[side] = {low: rng.randint(0, 9) for low in lows}
    return table


def means(table):
    """The mean prices of all ways round that come to no side twice."""
    for many in range(1, len(table) + 1):
        for sides in permutations(table, many):
            steps = list(zip(sides, sides[1:] + sides[:1]))
            if all(low in table[side] for side, low in steps):
                yield Fraction(sum(table[side][low] for side, low in steps), many)


class WaysTest(TimedTest):
    def tables(self, many=150):
        rng = Random(3)
        for _ in range(many):
            table = random_table(rng)
            row = {side: rng.randint(0, 5) for side in table if rng.random() < 0.6} or {0: 2}
            yield table, row, {side: rng.randint(0, 20) for side in table}

    def test_least_mean(self):
        for table, _, _ in self.tables(400):
            right = min(means(table))
            self.assertEqual(least_mean(table), (right.numerator, right.denominator))
        self.assertEqual(least_mean({1: {1: 5}, 2: {2: 3}}), (3, 1))
        self.assertEqual(least_mean({1: {2: 2}, 2: {3: 3, 1: 2}, 3: {1: 0}}), (5, 3))
        self.assertEqual(least_mean({1: {1: 0}, 2: {1: 9}}), (0, 1))

    def test_many_steps(self):
        for table, row, last in self.tables():
            powers, found = Powers(table), row
            for many in range(20):
                self.assertEqual(powers.carried_many(row, many), found)
                self.assertEqual(closing(found, last), min(price + last[side] for side, price in found.items()))
                found = carried(found, table)

    def test_rests(self):
        for table, row, last in self.tables():
            for less in (0, 2, 5):
                powers, found, best = Powers(with_rests(table, less)), row, closing(row, last)
                for many in range(1, 15):
                    found = carried(found, table)
                    best = min(best, closing(found, last) - less * many)
                    self.assertEqual(closing(powers.carried_many(row, many), last), best)

    def test_first_below(self):
        for table, row, last in self.tables(80):
            less = int(min(means(table))) + 10
            powers, found, many = Powers(with_rests(table, less)), row, 0
            best = closing(row, last)
            for most in range(best - 1, best - 120, -7):
                while best > most:
                    found, many = carried(found, table), many + 1
                    best = min(best, closing(found, last) - less * many)
                self.assertEqual(powers.first_below(row, last, most), many)


if __name__ == "__main__":
    unittest.main()
