"""The facts that points 10, 16 to 27 and 135 of the document state of forests, trees, shares and currents."""

import unittest
from itertools import combinations, product

from lastingshares.carried import current, current_rows, ring_parts, ring_sums
from lastingshares.chains import Chain
from lastingshares.forests import forests, lead, roots_in, trees
from lastingshares.shapes import is_hanging
from lastingshares.sums import determinant, forest_row, forest_sum, forest_two, listed_sum
from lastingshares.tables import Table
from lastingshares.trees import (drift, holding, holding_all, lowest_row, shares, tree_row, tree_sum, tree_total,
                                 with_shares)
from lastingshares.walks import has_walk
from support import CHAINS, GREAT, MIXED, all_roots, complete, empty, ring_arrows, some_tables

HEIGHTS = [(1, 0, 0, 0, 0), (3, -1, 4, -1, 5), (10 ** 9, 2, -10 ** 9, 7, 0)]
SEVERAL = CHAINS[::5]
WEIGHTED = [((0, 1), 3), ((2, 0), 1), ((1, 3, 2), 10 ** 12), ((3, 2, 1, 0), 5), ((2, 3, 1), 4), ((0, 1), 2)]


def table_of(size, weighted):
    """The table of some weighted rings."""
    rows = [[0] * size for _ in range(size)]
    for ring, weight in weighted:
        for x, y in ring_arrows(ring):
            rows[x][y] += weight
    return Table(rows)


def even_tables():
    """The tables of some sets of weighted rings, and of what the rings of some tables carry."""
    found = [table_of(4, rings) for many in range(4) for rings in combinations(WEIGHTED, many)]
    return found + [Table(current_rows(table)) for table in SEVERAL + MIXED[::3]]


def is_even(table):
    return all(table.out_of(x) == sum(row[x] for row in table.rows) for x in range(table.size))


class Forests(unittest.TestCase):
    def test_point_10_each_state_leads_to_one_root(self):
        for table in MIXED:
            for roots in all_roots(table.size):
                for forest in forests(table, roots):
                    self.assertEqual(roots_in(forest), tuple(sorted(roots)))
                    self.assertTrue(all(lead(forest, x) in roots for x in range(table.size)))
                    self.assertTrue(all(lead(forest, root) == root for root in roots))

    def test_point_16_sums_by_ends(self):
        for table in MIXED[::2]:
            for c, e in table.pairs_of(table.size):
                row = forest_row(table, c, [e])
                for x, y in product(range(table.size), repeat=2):
                    self.assertEqual(row[x], listed_sum(table, [c, e], [(x, c)]))
                    self.assertEqual(forest_two(table, x, c, y, e), listed_sum(table, [c, e], [(x, c), (y, e)]))
        self.assertEqual((forest_sum(empty(2), [0, 1]), listed_sum(empty(2), [0, 1])), (1, 1))

    def test_point_17_ends(self):
        for table in MIXED:
            for roots in all_roots(table.size):
                rows = [forest_row(table, c, roots) for c in roots]
                total = forest_sum(table, roots)
                for place, c in enumerate(roots):
                    self.assertEqual([rows[place][e] for e in roots], [total if e == c else 0 for e in roots])
                self.assertEqual([sum(column) for column in zip(*rows)], [total] * table.size)

    def test_point_17_two_roots(self):
        for table in MIXED[::2]:
            for c, e in table.pairs_of(table.size):
                row = forest_row(table, c, (e,))
                for x, y in product(range(table.size), repeat=2):
                    one, other = forest_two(table, x, c, y, e), forest_two(table, y, c, x, e)
                    self.assertEqual(row[x] - row[y], one - other)
                    self.assertEqual(row[x], listed_sum(table, [c, e], [(x, c), (y, c)]) + one)

    def test_point_18_determinants(self):
        for table in MIXED + [complete(8)]:
            for roots in all_roots(table.size)[::1 + 10 * (table.size > 5)]:
                left = [x for x in range(table.size) if x not in roots]
                rows = [[table.out_of(x) if x == y else -table[x, y] for y in left] for x in left]
                self.assertEqual(forest_sum(table, roots), determinant(rows))
        self.assertEqual(determinant([]), 1)


class Trees(unittest.TestCase):
    def test_point_19_shares(self):
        for chain in CHAINS:
            row, total = tree_row(chain), tree_total(chain)
            self.assertEqual(total, sum(row))
            self.assertTrue(all(u * total == number * v for (u, v), number in zip(shares(chain), row)))
            low = lowest_row(chain)
            self.assertTrue(all(low[0] * number == entry * row[0] for entry, number in zip(low, row)))

    def test_point_20_when_the_sums_are_0(self):
        for table in MIXED:
            states = range(table.size)
            led = [all(has_walk(table, x, c) for x in states) for c in states]
            self.assertEqual([number > 0 for number in tree_row(table)], led)
            self.assertIs(tree_total(table) > 0, any(led))
        for chain in SEVERAL:
            self.assertTrue(all(forest_sum(chain, roots) >= 1 for roots in all_roots(chain.size)))

    def test_point_21_drifts(self):
        for table in MIXED:
            for heights in HEIGHTS:
                row = drift(table, heights[:table.size])
                self.assertEqual(sum(t * d for t, d in zip(tree_row(table), row)), 0)

    def test_point_21_the_drifts_fix_the_shares(self):
        for chain in CHAINS[::3]:
            units = [[1 if x == y else 0 for y in range(chain.size)] for x in range(chain.size)]
            row = tree_row(chain)
            for v in (row, [2 * number for number in row], [0] * chain.size, [1] * chain.size,
                      [number + (x == 1) for x, number in enumerate(row)]):
                still = all(sum(t * d for t, d in zip(v, drift(chain, h))) == 0 for h in units)
                same = all(v[x] * row[y] == v[y] * row[x] for x, y in product(range(chain.size), repeat=2))
                self.assertIs(still, same)

    def test_point_22_one_rate(self):
        for table in MIXED[::2]:
            row = tree_row(table)
            for a, b in table.pairs_of(table.size):
                for rate in (0, table[a, b] + 1, 10 ** 12):
                    raised = rate - table[a, b]
                    changed = tree_row(Table(table.rows).with_rate(a, b, rate))
                    self.assertEqual(changed[a], row[a])
                    for c in range(table.size):
                        if c != a:
                            self.assertEqual(changed[c], row[c] + raised * forest_row(table, c, [a])[b])

    def test_point_22_what_does_not_change(self):
        for table in MIXED[::3]:
            for a in range(table.size):
                rows = [list(row) for row in table.rows]
                rows[a] = [0 if x == a else 5 + 3 * x for x in range(table.size)]
                other = Table(rows)
                self.assertEqual(tree_sum(other, a), tree_sum(table, a))
                for c in range(table.size):
                    if c != a:
                        self.assertEqual(forest_row(other, c, [a]), forest_row(table, c, [a]))

    def test_point_23_rates_out_of_one_state(self):
        for table in MIXED[::2]:
            row = tree_row(table)
            for x in range(table.size):
                expected = tuple(number * (1 if y == x else 7) for y, number in enumerate(row))
                self.assertEqual(tree_row(table.times(x, 7)), expected)

    def test_point_23_each_row_can_be_had(self):
        for chain in SEVERAL:
            for wanted in ([1] * chain.size, [5, 1, 3, 2, 8][:chain.size]):
                row = tree_row(with_shares(chain, wanted))
                self.assertTrue(all(row[0] * p == number * wanted[0] for number, p in zip(row, wanted)))

    def test_point_24_trees_that_hold_arrows(self):
        for table in MIXED[::2]:
            for a, b in table:
                self.assertEqual(holding(table, [(a, b)], a), 0)
                for c in range(table.size):
                    if c != a:
                        self.assertEqual(holding(table, [(a, b)], c), table[a, b] * forest_row(table, c, [a])[b])
                for d, e in table:
                    if (a, b) < (d, e):
                        held = [holding(table, [(a, b), (d, e)], c) for c in range(table.size)]
                        self.assertEqual(holding_all(table, [(d, e), (a, b)]), sum(held))
                        if a == d or (a, b) == (e, d):
                            self.assertEqual(held, [0] * table.size)

    def test_the_trees_are_those_of_point_16(self):
        for table in MIXED[::3]:
            for x in range(table.size):
                self.assertEqual(trees(table, x), list(forests(table, [x])))


class Currents(unittest.TestCase):
    def test_point_25_the_currents_are_even(self):
        for table in MIXED + GREAT + [complete(8)]:
            found = Table(current_rows(table))
            self.assertTrue(is_even(found))
            for x, y in table.pairs_of(table.size):
                self.assertEqual(found[x, y], current(table, x, y))

    def test_point_26_what_the_rings_carry(self):
        for table in MIXED:
            total = sum(map(sum, current_rows(table)))
            self.assertEqual(sum(len(ring) * part for ring, part in ring_sums(table)), total)
            for a, b in table:
                self.assertEqual(sum(part for _, part in ring_parts(table, a, b)), current(table, a, b))

    def test_point_27_even_tables(self):
        for table in even_tables():
            self.assertTrue(is_even(table))
            self.assertEqual(len(set(tree_row(table))), 1)
            for roots in all_roots(table.size):
                self.assertEqual(forest_sum(table, roots), forest_sum(~table, roots))

    def test_point_135_tables_of_weighted_rings(self):
        for chain in SEVERAL + [Chain(complete(5).rows)]:
            self.assertEqual(table_of(chain.size, ring_sums(chain)).rows, current_rows(chain))

    def test_point_135_hanging_chains_and_others(self):
        words = set()
        for chain in CHAINS + [Chain(complete(4).rows), Chain.around([2] * 8)]:
            parts = [[part for _, part in ring_parts(chain, a, b)] for a, b in chain]
            currents = [current(chain, a, b) for a, b in chain]
            self.assertIs(all(max(part) == number for part, number in zip(parts, currents)), is_hanging(chain))
            if is_hanging(chain):
                self.assertEqual(parts, [[number] for number in currents])
            words.add(is_hanging(chain))
        self.assertEqual(words, {True, False})

    def test_some_tables_are_even_and_some_are_not(self):
        self.assertEqual({is_even(table) for table in some_tables(4, 20, 9)} | {is_even(complete(3))}, {True, False})


if __name__ == "__main__":
    unittest.main()
