"""lastingshares.comings: to which of two states a thing comes first."""

import unittest
from fractions import Fraction
from itertools import product

from lastingshares.chains import Chain
from lastingshares.comings import chance, chance_row, coming_row, likelier, pair_sum
from lastingshares.errors import NoTree
from lastingshares.tables import Table
from support import MIXED, check_error, check_states_named, complete, empty, slow_row, slow_sum

CHAIN = Chain([[0, 1, 1], [1, 0, 2], [1, 0, 0]])
CUT = Table([[0, 5, 0, 0], [4, 0, 0, 0], [0, 0, 0, 7], [0, 0, 9, 0]])


class ComingRows(unittest.TestCase):
    def test_each_two_states(self):
        for table in MIXED:
            for c, e in table.pairs_of(table.size):
                self.assertEqual(coming_row(table, c, e), slow_row(table, [c, e], c))
                self.assertIs(type(coming_row(table, c, e)), tuple)
                self.assertEqual(pair_sum(table, c, e), slow_sum(table, [c, e]))

    def test_edges(self):
        self.assertEqual((coming_row(complete(2), 1, 0), pair_sum(empty(2), 0, 1)), ((0, 1), 1))
        self.assertEqual((coming_row(empty(8), 2, 5), pair_sum(empty(8), 2, 5)), ((0,) * 8, 0))
        self.assertEqual(coming_row(complete(8), 7, 0), (0,) + (8 ** 5,) * 6 + (2 * 8 ** 5,))
        self.assertEqual(pair_sum(complete(8) * 10 ** 12, 7, 0), 2 * 8 ** 5 * 10 ** 72)

    def test_errors(self):
        for call in (coming_row, pair_sum):
            check_states_named(self, call, CHAIN, (0, 1), same=((0, 1),))
            check_states_named(self, call, empty(3), (0, 1), same=((0, 1),))


class Chances(unittest.TestCase):
    def test_each_two_states(self):
        for table in MIXED:
            for c, e in table.pairs_of(table.size):
                total = slow_sum(table, [c, e])
                if total == 0:
                    check_error(self, NoTree(), chance_row, table, c, e)
                    check_error(self, NoTree(), chance, table, c, c, e)
                    continue
                expected = [Fraction(number, total) for number in slow_row(table, [c, e], c)]
                found = tuple((f.numerator, f.denominator) for f in expected)
                self.assertEqual(chance_row(table, c, e), found)
                self.assertEqual(tuple(chance(table, x, c, e) for x in range(table.size)), found)

    def test_edges(self):
        self.assertEqual(chance_row(empty(2), 0, 1), ((1, 1), (0, 1)))
        self.assertEqual(chance_row(complete(8), 3, 0), ((0, 1), (1, 2), (1, 2), (1, 1)) + ((1, 2),) * 4)
        self.assertEqual(chance_row(CUT, 0, 2), ((1, 1), (1, 1), (0, 1), (0, 1)))
        check_error(self, NoTree(), chance_row, CUT, 0, 1)
        check_error(self, NoTree(), chance, CUT, 0, 2, 3)

    def test_errors(self):
        check_states_named(self, chance, CHAIN, (0, 1, 2), same=((1, 2),))
        check_states_named(self, chance, empty(4), (1, 1, 2), same=((1, 2),))
        check_states_named(self, chance_row, CHAIN, (0, 1), same=((0, 1),))
        check_states_named(self, chance_row, empty(3), (0, 1), same=((0, 1),))


class Likelier(unittest.TestCase):
    def test_each_four_states(self):
        for table in MIXED:
            for c, e in table.pairs_of(table.size):
                total = slow_sum(table, [c, e])
                row = slow_row(table, [c, e], c)
                for a, b in product(range(table.size), repeat=2):
                    if total == 0:
                        check_error(self, NoTree(), likelier, table, a, b, c, e)
                    else:
                        self.assertEqual(likelier(table, a, b, c, e), (row[b] > row[a]) - (row[b] < row[a]))

    def test_the_same_start(self):
        self.assertEqual(likelier(CHAIN, 0, 0, 1, 2), 0)
        check_error(self, NoTree(), likelier, CUT, 3, 3, 0, 1)

    def test_eight_states(self):
        self.assertEqual([likelier(complete(8), a, b, 4, 2) for a, b in ((0, 4), (4, 0), (0, 1), (0, 2))], [1, -1, 0, -1])

    def test_errors(self):
        check_states_named(self, likelier, CHAIN, (0, 1, 0, 2), same=((2, 3),))
        check_states_named(self, likelier, empty(4), (0, 0, 1, 2), same=((2, 3),))


if __name__ == "__main__":
    unittest.main()
