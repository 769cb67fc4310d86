"""lastingshares.longs: how long a thing needs to come to a state."""

import unittest
from fractions import Fraction

from lastingshares.chains import Chain
from lastingshares.errors import NoTree
from lastingshares.longs import long, long_row, mean_time, time_row, two_root_sum
from lastingshares.tables import Table
from support import MIXED, check_error, check_states_named, complete, empty, slow_long, slow_sum

CHAIN = Chain([[0, 1, 1], [1, 0, 2], [1, 0, 0]])
DOWN = Table([[0, 0, 0], [3, 0, 0], [1, 2, 0]])


class Longs(unittest.TestCase):
    def test_each_two_states(self):
        for table in MIXED:
            for c in range(table.size):
                expected = tuple(slow_long(table, x, c) for x in range(table.size))
                self.assertEqual(long_row(table, c), expected)
                self.assertIs(type(long_row(table, c)), tuple)
                self.assertEqual(tuple(long(table, x, c) for x in range(table.size)), expected)

    def test_edges(self):
        self.assertEqual((long_row(empty(2), 0), long(complete(2), 0, 1), long(complete(2), 1, 1)), ((0, 1), 1, 0))
        self.assertEqual(long_row(empty(8), 3), (0,) * 8)
        # With all rates 1 a thing comes to a state at rate 1 from wherever it is, and 8 ** 6 trees lead there.
        self.assertEqual(long_row(complete(8), 3), (8 ** 6,) * 3 + (0,) + (8 ** 6,) * 4)
        self.assertEqual(long(complete(8) * 10 ** 12, 0, 5), 8 ** 6 * 10 ** 72)
        self.assertEqual(long_row(Table([[0, 0, 0], [1, 0, 0], [1, 0, 0]]), 1), (1, 0, 1))

    def test_errors(self):
        check_states_named(self, long_row, CHAIN, (0,))
        check_states_named(self, long, CHAIN, (0, 1))
        self.assertEqual(long(CHAIN, 2, 2), 0)


class MeanTimes(unittest.TestCase):
    def test_each_two_states(self):
        for table in MIXED:
            for c in range(table.size):
                total = slow_sum(table, [c])
                if total == 0:
                    check_error(self, NoTree(), time_row, table, c)
                    for x in range(table.size):
                        check_error(self, NoTree(), mean_time, table, x, c)
                    continue
                expected = [Fraction(slow_long(table, x, c), total) for x in range(table.size)]
                found = tuple((f.numerator, f.denominator) for f in expected)
                self.assertEqual(time_row(table, c), found)
                self.assertEqual(tuple(mean_time(table, x, c) for x in range(table.size)), found)

    def test_mean_stays(self):
        # A thing that leaves 0 for 1 at rate 5 needs 1 : 5; one at 2 needs 1 : 3, and then with chance 2 : 3 more.
        self.assertEqual(mean_time(Table([[0, 5], [0, 0]]), 0, 1), (1, 5))
        self.assertEqual(time_row(DOWN, 0), ((0, 1), (1, 3), (5, 9)))

    def test_edges(self):
        self.assertEqual(time_row(complete(8), 0), ((0, 1),) + ((1, 1),) * 7)
        self.assertEqual(mean_time(complete(8), 6, 6), (0, 1))
        self.assertEqual(mean_time(DOWN, 0, 0), (0, 1))
        for x in range(3):
            check_error(self, NoTree(), mean_time, DOWN, x, 1)
        check_error(self, NoTree(), mean_time, empty(8), 4, 4)
        check_error(self, NoTree(), time_row, empty(2), 0)

    def test_errors(self):
        check_states_named(self, mean_time, CHAIN, (0, 1))
        check_states_named(self, mean_time, empty(3), (0, 1))
        check_states_named(self, time_row, CHAIN, (0,))
        check_states_named(self, time_row, empty(3), (0,))


class TwoRoots(unittest.TestCase):
    def test_each_table(self):
        for table in MIXED:
            expected = sum(slow_sum(table, [c, e]) for c, e in table.pairs_of(table.size) if c < e)
            self.assertEqual(two_root_sum(table), expected)

    def test_edges(self):
        self.assertEqual([two_root_sum(table) for table in (empty(2), complete(2), empty(3), empty(8))], [1, 1, 0, 0])
        self.assertEqual(two_root_sum(complete(8)), 28 * 2 * 8 ** 5)


if __name__ == "__main__":
    unittest.main()
