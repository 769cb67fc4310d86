"""The facts that points 32 to 42 of the document state of chances and mean times."""

import unittest
from fractions import Fraction
from itertools import product

from lastingshares.carried import current_rows
from lastingshares.chains import Chain, same_shape
from lastingshares.comings import chance, chance_row, coming_row, likelier, pair_sum
from lastingshares.gaps import detour, detour_sum, sooner, there_and_back
from lastingshares.longs import long, long_row, mean_time, time_row, two_root_sum
from lastingshares.sums import forest_row, forest_sum
from lastingshares.tables import Table
from lastingshares.trees import drift, holding_all, shares, tree_row, tree_total
from lastingshares.walks import is_gate
from support import CHAINS, GREAT, MIXED, all_roots, complete

SEVERAL = CHAINS[::4]
EVEN = [Table(current_rows(table)) for table in SEVERAL + GREAT] + [complete(5)]


def number(pair):
    return Fraction(pair[0], pair[1])


class Chances(unittest.TestCase):
    def test_point_32_coming_rows(self):
        for table in MIXED:
            for c, e in table.pairs_of(table.size):
                row, other, total = coming_row(table, c, e), coming_row(table, e, c), forest_sum(table, [c, e])
                self.assertEqual((row[c], row[e], pair_sum(table, c, e)), (total, 0, total))
                self.assertEqual([u + v for u, v in zip(row, other)], [total] * table.size)
                self.assertEqual(row, forest_row(table, c, [e]))

    def test_point_32_chances_are_those_of_the_next_states(self):
        for chain in SEVERAL:
            for c, e in chain.pairs_of(chain.size):
                chances = [number(pair) for pair in chance_row(chain, c, e)]
                for x in range(chain.size):
                    if x not in (c, e):
                        mean = sum(rate * p for rate, p in zip(chain.rows[x], chances)) / chain.out_of(x)
                        self.assertEqual(chances[x], mean)
                self.assertEqual((chances[c], chances[e]), (1, 0))

    def test_point_33_sure_chances(self):
        for chain in SEVERAL:
            for c, e in chain.pairs_of(chain.size):
                for x in range(chain.size):
                    found = chance(chain, x, c, e)
                    self.assertIs(found == (1, 1), is_gate(chain, x, c, e))
                    self.assertIs(found == (0, 1), is_gate(chain, x, e, c))

    def test_likelier_orders_the_chances(self):
        for chain in SEVERAL:
            for c, e in chain.pairs_of(chain.size):
                for a, b in product(range(chain.size), repeat=2):
                    more = number(chance(chain, b, c, e)) - number(chance(chain, a, c, e))
                    self.assertEqual(likelier(chain, a, b, c, e), (more > 0) - (more < 0))


class MeanTimes(unittest.TestCase):
    def test_point_34_longs(self):
        for table in MIXED:
            for x, c in product(range(table.size), repeat=2):
                expected = sum(coming_row(table, z, c)[x] for z in range(table.size) if z != c)
                self.assertEqual(long(table, x, c), expected)
            self.assertEqual([long(table, c, c) for c in range(table.size)], [0] * table.size)

    def test_point_34_mean_times_are_a_stay_and_those_of_the_next_states(self):
        for chain in SEVERAL:
            for c in range(chain.size):
                times = [number(pair) for pair in time_row(chain, c)]
                for x in range(chain.size):
                    onward = 1 + sum(rate * time for rate, time in zip(chain.rows[x], times))
                    self.assertEqual(times[x], onward / chain.out_of(x) if x != c else 0)

    def test_point_35_drifts(self):
        for table in MIXED:
            trees, total, states = tree_row(table), tree_total(table), range(table.size)
            for c in states:
                expected = tuple(total - trees[c] if x == c else -trees[c] for x in states)
                self.assertEqual(drift(table, long_row(table, c)), expected)
            for c, e in table.pairs_of(table.size):
                expected = tuple({c: -trees[e], e: trees[c]}.get(x, 0) for x in states)
                self.assertEqual(drift(table, coming_row(table, c, e)), expected)
            for roots in all_roots(table.size):
                for c in roots:
                    row = drift(table, forest_row(table, c, roots))
                    self.assertEqual([row[x] for x in states if x not in roots], [0] * (table.size - len(roots)))

    def test_point_36_the_sum_of_all_trees(self):
        for table in MIXED:
            for a, b in table.pairs_of(table.size):
                for raised in (1, 10 ** 12):
                    changed = table.with_rate(a, b, table[a, b] + raised)
                    self.assertEqual(tree_total(changed), tree_total(table) + raised * long(table, b, a))
                if (a, b) in table:
                    self.assertEqual(holding_all(table, [(a, b)]), table[a, b] * long(table, b, a))

    def test_points_37_and_38_detours(self):
        for table in MIXED:
            trees = tree_row(table)
            for x, y, z in product(range(table.size), repeat=3):
                if y != z:
                    longs = trees[z] * long(table, x, y) + trees[y] * (long(table, y, z) - long(table, x, z))
                    self.assertEqual(detour_sum(table, x, y, z), longs)
                    self.assertEqual(longs, tree_total(table) * coming_row(table, z, y)[x])
        for chain in SEVERAL:
            for x, y, z in product(range(chain.size), repeat=3):
                if y != z:
                    longer = number(mean_time(chain, x, y)) + number(mean_time(chain, y, z))
                    self.assertEqual(number(detour(chain, x, y, z)), longer - number(mean_time(chain, x, z)))
                    self.assertIs(detour(chain, x, y, z) == (0, 1), is_gate(chain, x, y, z))

    def test_point_39_there_and_back(self):
        for table in MIXED:
            trees = tree_row(table)
            for y, z in table.pairs_of(table.size):
                both = trees[z] * long(table, z, y) + trees[y] * long(table, y, z)
                self.assertEqual(both, tree_total(table) * pair_sum(table, y, z))
        for chain in SEVERAL:
            for y, z in product(range(chain.size), repeat=2):
                both = number(mean_time(chain, y, z)) + number(mean_time(chain, z, y))
                self.assertEqual(number(there_and_back(chain, y, z)), both)

    def test_point_40_one_sum_from_every_start(self):
        for table in MIXED + [complete(8)]:
            states, trees = range(table.size), tree_row(table)
            rows = [long_row(table, c) for c in states]
            total = two_root_sum(table)
            self.assertEqual([sum(row[x] for row in rows) for x in states], [total] * table.size)
            every = sum(trees[z] * rows[y][z] for y, z in product(states, repeat=2))
            self.assertEqual(every, tree_total(table) * total)
        for chain in SEVERAL:
            for x in range(chain.size):
                mean = sum(number(share) * number(mean_time(chain, x, c)) for c, share in enumerate(shares(chain)))
                self.assertEqual(mean, Fraction(two_root_sum(chain), tree_total(chain)))

    def test_point_41_sooner(self):
        for chain in SEVERAL:
            for x, y, z in product(range(chain.size), repeat=3):
                if y == z:
                    continue
                found = sooner(chain, x, y, z)
                if is_gate(chain, x, y, z):
                    self.assertIsNone(found)
                    self.assertLess(number(mean_time(chain, x, y)), number(mean_time(chain, x, z)))
                else:
                    self.assertIs(type(found), Chain)
                    self.assertTrue(same_shape(found, chain))
                    self.assertGreater(number(mean_time(found, x, y)), number(mean_time(found, x, z)))
                if x == z:
                    self.assertGreater(number(mean_time(chain, x, y)), 0)

    def test_point_42_even_tables(self):
        for table in EVEN:
            turned = ~table
            for x, y in table.pairs_of(table.size):
                both = table.size * pair_sum(table, x, y)
                self.assertEqual(long(table, x, y) + long(table, y, x), both)
                self.assertEqual(long(turned, x, y) + long(turned, y, x), both)
                for c in range(table.size):
                    if c not in (x, y):
                        self.assertEqual(coming_row(turned, y, c)[x], coming_row(table, x, c)[y])


if __name__ == "__main__":
    unittest.main()
