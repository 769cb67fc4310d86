"""The facts that points 76 and 77 of the document state of two arrows."""

import unittest
from itertools import product

from lastingshares.falls import by_pushes, by_shares, fall, fall_to
from lastingshares.longs import long
from lastingshares.pushes import push, share_push
from lastingshares.tables import Table
from lastingshares.trees import holding, holding_all
from support import GREAT, MIXED

TABLES = MIXED[::2] + GREAT[8:11]
EIGHT = Table([[0 if x == y or (x * y) % 5 == 4 else 10 ** 12 - 7 * x + y for y in range(8)] for x in range(8)])


def two_arrows(table):
    return [(one, other) for one, other in product(table.arrows(), repeat=2) if one != other]


class Falls(unittest.TestCase):
    def test_point_76_trees(self):
        for table in TABLES:
            for one, other in two_arrows(table)[::2]:
                for c in range(table.size):
                    both = holding(table, [one], c) * holding(table, [other], c)
                    self.assertEqual(fall_to(table, one, other, c),
                                     both - holding(table, [], c) * holding(table, [one, other], c))
                both = holding_all(table, [one]) * holding_all(table, [other])
                self.assertEqual(fall(table, one, other),
                                 both - holding_all(table, []) * holding_all(table, [one, other]))

    def test_point_76_the_order_of_the_arrows_does_not_matter(self):
        for table in TABLES[::3]:
            for one, other in two_arrows(table):
                self.assertEqual(fall(table, one, other), fall(table, other, one))
                self.assertEqual(fall_to(table, one, other, 1), fall_to(table, other, one, 1))

    def test_point_77_pushes(self):
        for table in TABLES + [EIGHT]:
            for one, other in two_arrows(table)[::50 if table.size == 8 else 2]:
                (a, b), (g, h) = one, other
                rates = table[a, b] * table[g, h]
                for c in range(table.size):
                    expected = 0
                    if c not in (a, g):
                        expected = rates * push(table, a, b, c, g) * push(table, g, h, c, a)
                    self.assertEqual(fall_to(table, one, other, c), expected)
                    self.assertEqual(by_pushes(table, one, other, c), expected)
                expected = rates * share_push(table, a, b, g) * share_push(table, g, h, a)
                self.assertEqual(fall(table, one, other), expected)
                self.assertEqual(by_shares(table, one, other), expected)
                longs = (long(table, a, g) - long(table, b, g)) * (long(table, g, a) - long(table, h, a))
                self.assertEqual(expected, rates * longs)


if __name__ == "__main__":
    unittest.main()
