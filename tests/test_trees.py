"""lastingshares.trees: tree sums, shares, trees that hold arrows, drifts, and chains with wanted shares."""

import unittest
from fractions import Fraction
from itertools import combinations
from math import gcd

from lastingshares.chains import Chain, same_shape
from lastingshares.errors import BadPair, BadRow, NoTree, NotArrow
from lastingshares.tables import Table
from lastingshares.trees import (drift, holding, holding_all, lowest_row, shares, tree_row, tree_sum, tree_total,
                                 with_shares)
from support import (CHAINS, GREAT, MIXED, check_error, check_rows_named, check_states_named, complete, empty,
                     slow_forests, slow_sum, weight_of)

CHAIN = Chain([[0, 2, 0], [1, 0, 3], [4, 0, 0]])
ROWS = [(1, 1, 1, 1, 1), (2, 3, 5, 7, 11), (6, 4, 10, 9, 1), [10 ** 6, 999999, 999998, 1, 2]]


def slow_trees_row(table):
    return tuple(slow_sum(table, [x]) for x in range(table.size))


def slow_holding(table, held, x):
    return sum(weight_of(table, tree) for tree in slow_forests(table, [x])
               if all(tree[a] == b and a != x for a, b in held))


class TreeSums(unittest.TestCase):
    def test_each_table(self):
        for table in MIXED:
            row = slow_trees_row(table)
            self.assertEqual(tree_row(table), row)
            self.assertEqual(tuple(tree_sum(table, x) for x in range(table.size)), row)
            self.assertEqual(tree_total(table), sum(row))

    def test_eight_states(self):
        self.assertEqual(tree_row(complete(8)), (8 ** 6,) * 8)
        self.assertEqual(tree_total(complete(8) * 10 ** 12), 8 ** 7 * 10 ** 84)
        self.assertEqual((tree_row(empty(8)), tree_total(empty(8)), tree_sum(empty(8), 7)), ((0,) * 8, 0, 0))
        self.assertEqual(tree_row(Chain.around([1, 2, 1, 1, 1, 1, 1, 3])), (6, 3, 6, 6, 6, 6, 6, 2))

    def test_errors(self):
        check_states_named(self, tree_sum, CHAIN, (0,))


class Shares(unittest.TestCase):
    def test_each_table(self):
        for table in MIXED:
            row = slow_trees_row(table)
            if sum(row) == 0:
                check_error(self, NoTree(), shares, table)
                check_error(self, NoTree(), lowest_row, table)
            else:
                expected = [Fraction(number, sum(row)) for number in row]
                self.assertEqual(shares(table), tuple((f.numerator, f.denominator) for f in expected))
                self.assertEqual(lowest_row(table), tuple(number // gcd(*row) for number in row))
                self.assertEqual(sum(expected), 1)

    def test_edges(self):
        self.assertEqual(shares(complete(8)), ((1, 8),) * 8)
        self.assertEqual(lowest_row(complete(8) * 7), (1,) * 8)
        table = Table([[0, 0, 0], [5, 0, 0], [0, 4, 0]])
        self.assertEqual((shares(table), lowest_row(table)), (((1, 1), (0, 1), (0, 1)), (1, 0, 0)))
        for size in (2, 8):
            check_error(self, NoTree(), shares, empty(size))
            check_error(self, NoTree(), lowest_row, empty(size))
        check_error(self, NoTree(), shares, Table([[0, 0, 0], [1, 0, 1], [0, 0, 0]]))


class Holding(unittest.TestCase):
    def test_all_sets_of_arrows(self):
        for table in [table for table in MIXED if table.many < 9]:
            arrows = table.arrows()
            for many in range(min(4, len(arrows) + 1)):
                for held in combinations(arrows, many):
                    expected = [slow_holding(table, held, x) for x in range(table.size)]
                    given = [list(pair) for pair in held][::-1]
                    self.assertEqual([holding(table, given, x) for x in range(table.size)], expected)
                    self.assertEqual(holding_all(table, held), sum(expected))
                    self.assertEqual(given, [list(pair) for pair in held][::-1])

    def test_no_arrows(self):
        for table in (CHAIN, empty(3), complete(8)):
            self.assertEqual(tuple(holding(table, [], x) for x in range(table.size)), tree_row(table))
            self.assertEqual(holding_all(table, ()), tree_total(table))

    def test_sums_that_are_0(self):
        table = complete(4)
        self.assertEqual(holding_all(table, [(0, 1), (0, 2)]), 0)
        self.assertEqual((holding(table, [(0, 1)], 0), holding(table, [(0, 1)], 1)), (0, 8))
        self.assertEqual(holding_all(table, [(0, 1), (1, 2), (2, 0)]), 0)
        self.assertEqual(holding_all(table, [(0, 1), (1, 0)]), 0)

    def test_eight_states(self):
        self.assertEqual(holding_all(complete(8), [(x, x + 1) for x in range(7)]), 1)
        self.assertEqual(holding(complete(8), [(1, 0)], 0), 2 * 8 ** 5)

    def test_errors(self):
        for arrows in ([], None, [(0, 0)], [(0, 2)]):
            check_states_named(self, holding, CHAIN, (arrows, 0), at=[1])
        for call in (lambda arrows: holding(CHAIN, arrows, 1), lambda arrows: holding_all(CHAIN, arrows)):
            for thing in (None, 0, "01", {(0, 1)}, {0: 1}):
                check_error(self, BadPair(-1), call, thing)
            for thing in (None, 1, "01", (0,), (0, 1, 2), (0, 0), (0, 3), (-1, 0), (True, 0), (0, True), (1, 0)):
                check_error(self, BadPair(1), call, [(1, 0), thing, thing])
            check_error(self, BadPair(2), call, [(2, 1), (0, 2), (2, 2)])
            check_error(self, NotArrow(0, 2), call, [(2, 1), (0, 1), [0, 2]])


class Drifts(unittest.TestCase):
    def test_each_table(self):
        for table in MIXED:
            for heights in ((0, 0, 0, 0, 0), (1, -2, 3, 5, -7), (10 ** 12, -10 ** 12, 0, 1, 2)):
                row = heights[:table.size]
                expected = tuple(sum(table.rows[x][b] * (row[b] - row[x]) for b in range(table.size))
                                 for x in range(table.size))
                self.assertEqual(drift(table, row), expected)
                self.assertEqual(drift(table, list(row)), expected)

    def test_edges(self):
        self.assertEqual(drift(empty(8), list(range(8))), (0,) * 8)
        self.assertEqual(drift(complete(8), (8, 0, 0, 0, 0, 0, 0, 0)), (-56,) + (8,) * 7)
        self.assertIs(type(drift(CHAIN, [0, 1, 2])), tuple)

    def test_errors(self):
        check_rows_named(self, lambda heights: drift(CHAIN, heights))


class WithShares(unittest.TestCase):
    def test_each_chain(self):
        for chain in CHAINS + [Chain(table.rows) for table in GREAT if sum(map(bool, tree_row(table))) == table.size]:
            for row in ROWS:
                wanted = row[:chain.size]
                kept = list(wanted)
                found = with_shares(chain, wanted)
                self.assertIs(type(found), Chain)
                self.assertTrue(same_shape(found, chain))
                sums = tree_row(found)
                self.assertTrue(all(sums[0] * wanted[x] == sums[x] * wanted[0] for x in range(chain.size)))
                self.check_factors(chain, found, wanted)
                self.assertEqual(list(wanted), kept)

    def check_factors(self, chain, found, wanted):
        factors = [Fraction(found.out_of(x), chain.out_of(x)) for x in range(chain.size)]
        self.assertEqual([factor.denominator for factor in factors], [1] * chain.size)
        self.assertEqual(gcd(*[factor.numerator for factor in factors]), 1)
        self.assertEqual(found.rows, tuple(tuple(rate * factor for rate in row)
                                           for row, factor in zip(chain.rows, factors)))
        sums = tree_row(chain)
        self.assertEqual(len({factors[x] * wanted[x] / sums[x] for x in range(chain.size)}), 1)

    def test_eight_states(self):
        wanted = [1, 2, 3, 4, 5, 6, 7, 8]
        found = with_shares(complete(8), wanted)
        self.assertEqual([row[0] or row[1] for row in found.rows], [840, 420, 280, 210, 168, 140, 120, 105])
        self.assertEqual(with_shares(complete(8) * 3, (5,) * 8), complete(8) * 3)

    def test_two_states(self):
        self.assertEqual(with_shares(Chain([[0, 2], [3, 0]]), [1, 1]).rows, ((0, 6), (6, 0)))
        self.assertEqual(with_shares(Chain([[0, 2], [3, 0]]), [3, 2]).rows, ((0, 2), (3, 0)))

    def test_errors(self):
        check_rows_named(self, lambda row: with_shares(CHAIN, row))
        check_error(self, BadRow(0), with_shares, CHAIN, [0, 0, 0])
        check_error(self, BadRow(1), with_shares, CHAIN, (1, -1, 0))
        check_error(self, BadRow(2), with_shares, CHAIN, [1, 1, 0])
        # The errors of a row come first, then the first entry below 1.
        check_error(self, BadRow(2), with_shares, CHAIN, [0, -1, True])
        check_error(self, BadRow(-1), with_shares, CHAIN, [0, 0])


if __name__ == "__main__":
    unittest.main()
