"""lastingshares.pushes: pushes on ratios, shares and means, lifting, lowering and parting forests, gains."""

import unittest
from fractions import Fraction
from itertools import product
from math import comb

from lastingshares.chains import Chain
from lastingshares.errors import NoTree
from lastingshares.pushes import (gainers, lifting, lowering, mean_push, parting, push, push_rows, share_push,
                                  share_pushes)
from lastingshares.tables import Table
from support import (MIXED, check_error, check_rows_named, check_states_named, complete, empty, lead_of, slow_forests,
                     slow_push, slow_sum, weight_of)

CHAIN = Chain([[0, 1, 1], [1, 0, 2], [1, 0, 0]])
ROWS = [(0, 0, 0, 0, 0), (1, -2, 3, 5, -7), (10 ** 12, -10 ** 12, 0, 1, 2)]


def slow_share_push(table, a, b, c):
    return sum(slow_push(table, a, b, c, e) for e in range(table.size) if e != c)


def slow_parting(table, a, b):
    return sum(weight_of(table, forest) for c, e in table.pairs_of(table.size) if c < e
               for forest in slow_forests(table, [c, e]) if lead_of(forest, a) != lead_of(forest, b))


class Pushes(unittest.TestCase):
    def test_each_four_states(self):
        for table in MIXED:
            pairs = table.pairs_of(table.size)
            for c, e in pairs:
                rows = push_rows(table, c, e)
                self.assertEqual((type(rows), {type(row) for row in rows}), (tuple, {tuple}))
                self.assertEqual([rows[a][a] for a in range(table.size)], [0] * table.size)
                for a, b in pairs:
                    self.assertEqual(push(table, a, b, c, e), slow_push(table, a, b, c, e))
                    self.assertEqual(rows[a][b], slow_push(table, a, b, c, e))

    def test_edges(self):
        self.assertEqual((push(empty(2), 0, 1, 1, 0), push_rows(empty(2), 0, 1)), (1, ((0, -1), (1, 0))))
        self.assertEqual(push_rows(empty(8), 0, 1), ((0,) * 8,) * 8)
        self.assertEqual(push(complete(8), 3, 5, 5, 3), 2 * 8 ** 5)
        self.assertEqual(push(complete(8), 3, 5, 1, 2), 0)
        self.assertEqual(push(complete(8) * 10 ** 12, 3, 5, 5, 2), 8 ** 5 * 10 ** 72)

    def test_errors(self):
        check_states_named(self, push, CHAIN, (0, 1, 1, 2), same=((0, 1), (2, 3)))
        check_states_named(self, push, CHAIN, (0, 1, 2, 2), same=((0, 1),))
        check_states_named(self, push_rows, CHAIN, (0, 1), same=((0, 1),))


class Forests(unittest.TestCase):
    def test_lifting_and_lowering(self):
        for table in MIXED:
            pairs = table.pairs_of(table.size)
            for (a, b), (c, e) in product(pairs, pairs):
                self.assertEqual(lifting(table, a, b, c, e), slow_sum(table, [c, e], [(b, c), (a, e)]))
                self.assertEqual(lowering(table, a, b, c, e), slow_sum(table, [c, e], [(b, e), (a, c)]))

    def test_parting(self):
        for table in MIXED:
            for a, b in table.pairs_of(table.size):
                self.assertEqual(parting(table, a, b), slow_parting(table, a, b))

    def test_edges(self):
        self.assertEqual((lifting(empty(2), 0, 1, 1, 0), lowering(empty(2), 0, 1, 1, 0)), (1, 0))
        self.assertEqual((parting(empty(2), 0, 1), parting(empty(3), 0, 1), parting(empty(8), 0, 1)), (1, 0, 0))
        self.assertEqual((lifting(complete(8), 3, 5, 5, 3), lowering(complete(8), 3, 5, 5, 3)), (2 * 8 ** 5, 0))
        self.assertEqual(lifting(complete(8), 0, 1, 2, 3), lowering(complete(8), 0, 1, 2, 3))
        # With all rates 1, m of 8 states have m ** (m - 1) trees among themselves; k + 1 of them come with a.
        number = sum(comb(6, k) * (k + 1) ** k * (7 - k) ** (6 - k) for k in range(7))
        self.assertEqual((parting(complete(8), 6, 2), parting(complete(8), 0, 7)), (number, number))
        self.assertEqual(parting(complete(8) * 10 ** 12, 6, 2), number * 10 ** 72)
        self.assertEqual(parting(complete(4) * 10 ** 12, 0, 3), slow_parting(complete(4), 0, 3) * 10 ** 24)

    def test_errors(self):
        for call in (lifting, lowering):
            check_states_named(self, call, CHAIN, (0, 1, 1, 2), same=((0, 1), (2, 3)))
            check_states_named(self, call, CHAIN, (0, 1, 2, 2), same=((0, 1),))
        check_states_named(self, parting, CHAIN, (0, 1), same=((0, 1),))


class SharePushes(unittest.TestCase):
    def test_each_three_states(self):
        for table in MIXED:
            for a, b in table.pairs_of(table.size):
                expected = tuple(slow_share_push(table, a, b, c) for c in range(table.size))
                self.assertEqual(share_pushes(table, a, b), expected)
                self.assertIs(type(share_pushes(table, a, b)), tuple)
                self.assertEqual(tuple(share_push(table, a, b, c) for c in range(table.size)), expected)

    def test_edges(self):
        self.assertEqual((share_pushes(empty(2), 0, 1), share_pushes(empty(8), 0, 1)), ((-1, 1), (0,) * 8))
        self.assertEqual(share_pushes(complete(8), 5, 1), (0, 8 ** 6, 0, 0, 0, -8 ** 6, 0, 0))

    def test_errors(self):
        check_states_named(self, share_push, CHAIN, (0, 1, 2), same=((0, 1),))
        check_states_named(self, share_push, CHAIN, (0, 1, 1), same=((0, 1),))
        check_states_named(self, share_pushes, CHAIN, (0, 1), same=((0, 1),))


class MeanPushes(unittest.TestCase):
    def test_each_row(self):
        for table in MIXED:
            for row in ROWS:
                given = row[:table.size]
                for a, b in table.pairs_of(table.size):
                    expected = sum(entry * slow_share_push(table, a, b, c) for c, entry in enumerate(given))
                    self.assertEqual(mean_push(table, a, b, given), expected)
                    self.assertEqual(mean_push(table, a, b, list(given)), expected)

    def test_the_row_stays(self):
        row = [3, 1, 2]
        self.assertEqual(mean_push(CHAIN, 0, 1, row), 3 * -3 + 1 * 2 + 2 * 1)
        self.assertEqual(row, [3, 1, 2])
        self.assertEqual(mean_push(complete(8), 5, 1, [1, 2, 3, 4, 5, 6, 7, 8]), -4 * 8 ** 6)

    def test_errors(self):
        for row in ([1, 1, 1], None, [1, 1], [True, 1, 1]):
            check_states_named(self, mean_push, CHAIN, (0, 1, row), same=((0, 1),), at=(0, 1))
        check_rows_named(self, lambda row: mean_push(CHAIN, 0, 1, row))


class Gainers(unittest.TestCase):
    def test_each_pair(self):
        for table in MIXED:
            trees = [slow_sum(table, [c]) for c in range(table.size)]
            for a, b in table.pairs_of(table.size):
                if 0 in trees:
                    check_error(self, NoTree(), gainers, table, a, b)
                else:
                    gains = [Fraction(slow_share_push(table, a, b, c), trees[c]) for c in range(table.size)]
                    expected = sorted(range(table.size), key=lambda c: (-gains[c], c))
                    self.assertEqual(gainers(table, a, b), tuple(expected))

    def test_equal_gains_ascend(self):
        self.assertEqual(gainers(complete(8), 5, 1), (1, 0, 2, 3, 4, 6, 7, 5))
        self.assertEqual(gainers(Chain.around([1] * 8), 6, 3), (3, 4, 5, 0, 1, 2, 6, 7))
        self.assertEqual(gainers(complete(2), 1, 0), (0, 1))

    def test_one_sum_of_trees_is_0(self):
        check_error(self, NoTree(), gainers, Table([[0, 0, 0], [1, 0, 1], [1, 1, 0]]), 1, 2)
        check_error(self, NoTree(), gainers, empty(8), 0, 1)

    def test_errors(self):
        check_states_named(self, gainers, CHAIN, (0, 1), same=((0, 1),))
        check_states_named(self, gainers, empty(3), (0, 1), same=((0, 1),))


if __name__ == "__main__":
    unittest.main()
