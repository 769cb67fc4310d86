"""lastingshares.gaps: detours, the way there and back, and chains in which one state is come to later."""

import unittest
from fractions import Fraction
from itertools import product

from lastingshares.chains import Chain, same_shape
from lastingshares.errors import NoTree
from lastingshares.gaps import detour, detour_sum, sooner, there_and_back
from lastingshares.tables import Table
from lastingshares.walks import is_gate
from support import (CHAINS, MIXED, check_error, check_states_named, complete, empty, slow_long, slow_sum)

CHAIN = Chain([[0, 1, 1], [1, 0, 2], [1, 0, 0]])
CUT = Table([[0, 5, 0, 0], [4, 0, 0, 0], [0, 3, 0, 7], [0, 0, 9, 0]])


def slow_time(table, x, c):
    return Fraction(slow_long(table, x, c), slow_sum(table, [c]))


def parts_of(number):
    return (number.numerator, number.denominator)


class Detours(unittest.TestCase):
    def test_each_three_states(self):
        for table in MIXED:
            trees = [slow_sum(table, [x]) for x in range(table.size)]
            for x, y, z in product(range(table.size), repeat=3):
                if y == z:
                    continue
                self.assertEqual(detour_sum(table, x, y, z), sum(trees) * slow_sum(table, [y, z], [(x, z)]))
                if trees[y] * trees[z] == 0:
                    check_error(self, NoTree(), detour, table, x, y, z)
                else:
                    longer = slow_time(table, x, y) + slow_time(table, y, z) - slow_time(table, x, z)
                    self.assertEqual(detour(table, x, y, z), parts_of(longer))

    def test_edges(self):
        self.assertEqual((detour_sum(complete(2), 0, 0, 1), detour_sum(complete(2), 0, 1, 0)), (0, 2))
        self.assertEqual((detour(complete(2), 0, 0, 1), detour(complete(2), 0, 1, 0)), ((0, 1), (2, 1)))
        self.assertEqual(detour_sum(empty(8), 0, 1, 2), 0)
        self.assertEqual(detour(complete(8), 0, 1, 2), (1, 1))
        self.assertEqual(detour(complete(8), 2, 1, 2), (2, 1))
        check_error(self, NoTree(), detour, CUT, 0, 0, 2)
        check_error(self, NoTree(), detour, CUT, 0, 2, 0)
        # From 2 the thing comes to 1 first, so the detour by 0 is the way from 1 to 0 and back.
        self.assertEqual((detour(CUT, 2, 0, 1), detour(CUT, 2, 1, 0)), ((9, 20), (0, 1)))

    def test_errors(self):
        for call in (detour_sum, detour):
            check_states_named(self, call, CHAIN, (0, 1, 2), same=((1, 2),))
            check_states_named(self, call, empty(3), (1, 1, 2), same=((1, 2),))


class ThereAndBack(unittest.TestCase):
    def test_each_two_states(self):
        for table in MIXED:
            for y, z in product(range(table.size), repeat=2):
                if slow_sum(table, [y]) * slow_sum(table, [z]) == 0:
                    check_error(self, NoTree(), there_and_back, table, y, z)
                else:
                    expected = slow_time(table, y, z) + slow_time(table, z, y)
                    self.assertEqual(there_and_back(table, y, z), parts_of(expected))

    def test_edges(self):
        self.assertEqual(there_and_back(Table([[0, 3], [6, 0]]), 1, 0), (1, 2))
        self.assertEqual((there_and_back(complete(8), 2, 5), there_and_back(complete(8), 2, 2)), ((2, 1), (0, 1)))
        self.assertEqual((there_and_back(CUT, 0, 1), there_and_back(CUT, 1, 1)), ((9, 20), (0, 1)))
        for y, z in ((2, 2), (2, 0), (0, 2), (3, 2)):
            check_error(self, NoTree(), there_and_back, CUT, y, z)
        check_error(self, NoTree(), there_and_back, empty(8), 5, 5)

    def test_errors(self):
        check_states_named(self, there_and_back, CHAIN, (0, 1))
        check_states_named(self, there_and_back, empty(3), (0, 1))


class Sooner(unittest.TestCase):
    def check_later(self, chain, x, y, z):
        found = sooner(chain, x, y, z)
        if is_gate(chain, x, y, z):
            self.assertIsNone(found)
        else:
            self.assertIs(type(found), Chain)
            self.assertTrue(same_shape(found, chain))
            self.assertGreater(slow_time(found, x, y), slow_time(found, x, z))

    def test_each_three_states(self):
        for chain in CHAINS[::3]:
            for x, y, z in product(range(chain.size), repeat=3):
                if y != z:
                    self.check_later(chain, x, y, z)

    def test_great_rates_against_the_wanted_order(self):
        for rate in (1, 10 ** 6, 10 ** 12):
            chain = Chain([[0, rate, 1, 0], [0, 0, rate, rate], [1, 0, 0, rate], [rate, 0, 0, 0]])
            for x, y, z in product(range(4), repeat=3):
                if y != z:
                    self.check_later(chain, x, y, z)

    def test_the_start_is_the_end(self):
        for chain in (complete(2), complete(8), CHAIN):
            found = sooner(chain, 0, 1, 0)
            self.assertTrue(same_shape(found, chain))

    def test_the_start_is_the_gate(self):
        self.assertIsNone(sooner(complete(8), 3, 3, 0))
        self.assertIsNone(sooner(complete(2), 0, 0, 1))

    def test_eight_states(self):
        ring = Chain.around([1] * 8)
        for y in range(8):
            for x, z in ((0, 6), (5, 2), (7, 7)):
                if y == z:
                    continue
                found = sooner(ring, x, y, z)
                if (y - x) % 8 < (z - x) % 8:
                    self.assertIsNone(found)
                else:
                    self.assertTrue(same_shape(found, ring))
                    self.assertLess(self.time_round(found, x, z), self.time_round(found, x, y))

    def time_round(self, ring, x, z):
        """The mean time from x to z in a ring of all states, stay by stay."""
        total = Fraction(0)
        while x != z:
            total += Fraction(1, ring.out_of(x))
            x = (x + 1) % ring.size
        return total

    def test_many_ways_back(self):
        # From each state of the way to 7 an arrow leads back to 0, and 1 is next to 0 alone.
        pairs = [(0, 2), (0, 1), (1, 0), (7, 0)] + [(x, x + 1) for x in range(2, 7)] + [(x, 0) for x in range(2, 7)]
        chain = Chain.of_arrows(8, pairs)
        found = sooner(chain, 0, 1, 7)
        self.assertTrue(same_shape(found, chain))
        self.check_later(chain, 0, 1, 7)

    def test_errors(self):
        check_states_named(self, sooner, CHAIN, (0, 1, 2), same=((1, 2),))
        check_states_named(self, sooner, CHAIN, (1, 1, 2), same=((1, 2),))


if __name__ == "__main__":
    unittest.main()
