"""lastingshares.sums: sums over forests, by determinants, by parts and by listing."""

import unittest
from itertools import permutations, product
from math import comb

from lastingshares.chains import Chain
from lastingshares.errors import BadPair, BadSet, TooMany
from lastingshares.sums import determinant, forest_row, forest_sum, forest_two, listed_sum
from support import (MIXED, all_roots, check_error, check_sets_named, check_states_named, complete, empty, of_mask,
                     slow_row, slow_sum)

CHAIN = Chain([[0, 1, 2, 0], [0, 0, 1, 1], [1, 0, 0, 3], [1, 0, 0, 0]])
ONE = complete(3)


def slow_determinant(rows):
    total = 0
    for order in permutations(range(len(rows))):
        turns = sum(1 for k, x in enumerate(order) for y in order[:k] if y > x)
        term = (-1) ** turns
        for row, place in zip(rows, order):
            term *= row[place]
        total += term
    return total


class ForestSum(unittest.TestCase):
    def test_each_set_of_roots(self):
        for table in MIXED:
            for roots in all_roots(table.size):
                kept = list(roots)
                expected = slow_sum(table, roots)
                self.assertEqual(forest_sum(table, roots), expected)
                self.assertEqual(forest_sum(table, tuple(reversed(roots))), expected)
                self.assertEqual(roots, kept)

    def test_eight_states(self):
        # A complete chain of n states has k * n ** (n - k - 1) forests with k given roots.
        for k in range(1, 8):
            self.assertEqual(forest_sum(complete(8), list(range(k))), k * 8 ** (7 - k))
        self.assertEqual(forest_sum(complete(8) * 10 ** 12, [5]), 8 ** 6 * 10 ** 84)
        self.assertEqual(forest_sum(complete(8), list(range(8))), 1)
        self.assertEqual(forest_sum(empty(8), list(range(8))), 1)
        self.assertEqual(forest_sum(empty(8), list(range(7))), 0)
        self.assertEqual(forest_sum(Chain.around([2, 3, 5, 7, 11, 13, 17, 19]), (4, 0)), 3 * 5 * 7 * 13 * 17 * 19)

    def test_errors(self):
        check_sets_named(self, lambda roots: forest_sum(ONE, roots), least=1)


class ForestRow(unittest.TestCase):
    def test_each_set_of_roots(self):
        for table in MIXED:
            for roots in all_roots(table.size):
                for c in roots:
                    expected = slow_row(table, roots, c)
                    others = [root for root in roots if root != c]
                    self.assertEqual(forest_row(table, c, others), expected)
                    self.assertEqual(forest_row(table, c, tuple(roots)), expected)
                    self.assertIs(type(forest_row(table, c, roots)), tuple)

    def test_one_root(self):
        for table in MIXED:
            for c in range(table.size):
                expected = (slow_sum(table, [c]),) * table.size
                self.assertEqual(forest_row(table, c), expected)
                self.assertEqual(forest_row(table, c, []), expected)
                self.assertEqual(forest_row(table, c, [c]), expected)

    def test_eight_states(self):
        self.assertEqual(forest_row(complete(8), 3), (8 ** 6,) * 8)
        self.assertEqual(forest_row(complete(8), 3, [0]), (0,) + (8 ** 5,) * 2 + (2 * 8 ** 5,) + (8 ** 5,) * 4)
        self.assertEqual(forest_row(complete(8), 3, list(range(8))), (0, 0, 0, 1, 0, 0, 0, 0))
        self.assertEqual((forest_row(empty(8), 3), forest_row(empty(8), 3, [0])), ((0,) * 8, (0,) * 8))
        ring = Chain.around([2, 3, 5, 7, 11, 13, 17, 19])
        number = 3 * 5 * 7 * 13 * 17 * 19
        self.assertEqual(forest_row(ring, 4, [0]), (0,) + (number,) * 4 + (0,) * 3)

    def test_arguments_stay(self):
        others = [3, 2]
        self.assertEqual(forest_row(CHAIN, 2, others), (5, 3, 6, 0))
        self.assertEqual(others, [3, 2])

    def test_errors(self):
        for others in ([], None, [9]):
            check_states_named(self, forest_row, CHAIN, (0, others), at=[0])
        check_sets_named(self, lambda others: forest_row(ONE, 1, others), least=0)


class ForestTwo(unittest.TestCase):
    def test_each_four_states(self):
        for table in MIXED:
            states = range(table.size)
            for x, c, y, e in product(states, repeat=4):
                if c != e:
                    self.assertEqual(forest_two(table, x, c, y, e), slow_sum(table, [c, e], [(x, c), (y, e)]))

    def test_eight_states(self):
        self.assertEqual(forest_two(complete(8), 2, 2, 5, 5), 2 * 8 ** 5)
        self.assertEqual(forest_two(complete(8), 0, 2, 5, 5), 8 ** 5)
        self.assertEqual(forest_two(complete(8), 0, 2, 0, 5), 0)
        self.assertEqual(forest_two(empty(8), 0, 2, 1, 5), 0)
        # m states in all directions have m ** (m - 2) trees to each one; k of the other four states lead to 2.
        number = sum(comb(4, k) * (k + 2) ** k * (6 - k) ** (4 - k) for k in range(5))
        self.assertEqual(forest_two(complete(8), 0, 2, 1, 5), number)
        self.assertEqual(forest_two(complete(8) * 10 ** 12, 1, 2, 0, 5), number * 10 ** 72)

    def test_errors(self):
        check_states_named(self, forest_two, CHAIN, (0, 1, 2, 3), same=((1, 3),))
        check_states_named(self, forest_two, CHAIN, (0, 0, 0, 1), same=((1, 3),))


class ListedSum(unittest.TestCase):
    def test_each_end(self):
        for table in MIXED[::2]:
            for roots in all_roots(table.size):
                self.assertEqual(listed_sum(table, roots), slow_sum(table, roots))
                self.assertEqual(listed_sum(table, tuple(roots), ()), slow_sum(table, roots))
                for x, c in product(range(table.size), roots):
                    self.assertEqual(listed_sum(table, roots, [(x, c)]), slow_sum(table, roots, [(x, c)]))
                    for ends in ([[x, c], (0, roots[0])], ((roots[-1], roots[-1]), (x, c), (x, c))):
                        self.assertEqual(listed_sum(table, roots, ends), slow_sum(table, roots, ends))

    def test_repeated_and_contradicting_ends(self):
        self.assertEqual(listed_sum(CHAIN, [2, 3], [(0, 3), [0, 3], (0, 3)]), 1)
        self.assertEqual(listed_sum(CHAIN, [2, 3], [(0, 3), (0, 2)]), 0)
        self.assertEqual(listed_sum(CHAIN, [2, 3], [(2, 3)]), 0)
        self.assertEqual(listed_sum(CHAIN, [2, 3], ((2, 2), (3, 3))), 6)

    def test_arguments_stay(self):
        roots, ends = [3, 2], [[0, 3], (1, 2)]
        self.assertEqual(listed_sum(CHAIN, roots, ends), slow_sum(CHAIN, roots, ends))
        self.assertEqual((roots, ends), ([3, 2], [[0, 3], (1, 2)]))

    def test_number_of_forests(self):
        # 7 states in all directions have 7 ** 5 trees to each state, 8 states have 8 ** 6.
        self.assertEqual(listed_sum(complete(7), [0]), 7 ** 5)
        check_error(self, TooMany(20000), listed_sum, complete(8), [0])
        check_error(self, TooMany(20000), listed_sum, complete(8), (0, 1), [(2, 0), (2, 1)])
        check_error(self, TooMany(20000), listed_sum, complete(8) * 5, (0, 1), [(0, 0)])
        self.assertEqual(listed_sum(complete(8), [0, 1, 2], [(5, 1)]), 8 ** 4)
        self.assertEqual(listed_sum(empty(8), [0]), 0)

    def test_number_of_forests_about_20000(self):
        exact, more = of_mask(8, 72056906373349114), of_mask(8, 25885801025372023)
        self.assertEqual((forest_sum(exact, [4, 3]), forest_sum(more, [3, 2])), (20000, 20001))
        self.assertEqual(listed_sum(exact * 3, [4, 3]), 20000 * 3 ** 6)
        self.assertEqual(listed_sum(exact, [4, 3], [(0, 3)]), forest_row(exact, 3, [4])[0])
        check_error(self, TooMany(20000), listed_sum, more, [3, 2])
        check_error(self, TooMany(20000), listed_sum, more, [3, 2], [(2, 3)])

    def test_errors(self):
        for ends in ((), None, [9], [(0, 9)]):
            check_sets_named(self, lambda roots: listed_sum(ONE, roots, ends), least=1)
            check_error(self, BadSet(-2), listed_sum, complete(8), [], ends)
        for thing in (None, 0, True, "01", {(0, 1)}, {0: 1}, range(2)):
            check_error(self, BadPair(-1), listed_sum, CHAIN, [2, 3], thing)
        for thing in (None, 2, "02", (), (2,), [0, 2, 2], {0, 2}, range(2), (True, 2), (0, 1), (0, True), (-1, 2),
                      (4, 2), (0, 4), ("0", 2), (0, None), (2, 0), ((0,), 2)):
            check_error(self, BadPair(0), listed_sum, CHAIN, [2, 3], [thing])
            check_error(self, BadPair(1), listed_sum, CHAIN, [2, 3], [(0, 2), thing, thing])
        check_error(self, BadPair(1), listed_sum, complete(8), [0], ((5, 0), (5, 1)))
        check_error(self, BadPair(0), listed_sum, complete(3), [1], [(0, False)])
        check_error(self, BadPair(0), listed_sum, complete(3), [1], [(0, True)])


class Determinants(unittest.TestCase):
    def test_small_ones(self):
        self.assertEqual((determinant([]), determinant(())), (1, 1))
        self.assertEqual((determinant([[-7]]), determinant(((0,),))), (-7, 0))
        for entries in product((-2, 0, 1, 3), repeat=4):
            rows = (entries[:2], list(entries[2:]))
            self.assertEqual(determinant(rows), entries[0] * entries[3] - entries[1] * entries[2])

    def test_three_rows(self):
        for entries in product((-1, 0, 2), repeat=9):
            rows = [list(entries[:3]), list(entries[3:6]), list(entries[6:])]
            self.assertEqual(determinant(rows), slow_determinant(rows))

    def test_more_rows_and_great_entries(self):
        number = 5
        for turn in range(60):
            size = 4 + turn % 3
            rows = []
            for _ in range(size):
                row = []
                for _ in range(size):
                    number = (number * 6364136223846793005 + 1442695040888963407) % 2 ** 64
                    row.append(0 if (number >> 40) % 3 == 0 else (number >> 20) % 2000003 ** 2 - 2 * 10 ** 12)
                rows.append(row)
            if turn % 4 == 0:
                rows[-1] = [2 * x - y for x, y in zip(rows[0], rows[1])]
            kept = [list(row) for row in rows]
            self.assertEqual(determinant(rows), slow_determinant(rows))
            self.assertEqual(rows, kept)

    def test_eight_rows(self):
        for shift in range(8):
            rows = [[0] * 8 for _ in range(8)]
            for x in range(8):
                rows[x][(x + shift) % 8] = x + 1
            self.assertEqual(determinant(rows), 40320 * (-1) ** (shift * (8 - shift)))


if __name__ == "__main__":
    unittest.main()
