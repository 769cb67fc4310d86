"""lastingshares.falls: falls of two arrows, by trees and by pushes, and how arrows are checked."""

import unittest
from itertools import product

from lastingshares.chains import Chain
from lastingshares.errors import BadPair, NotArrow
from lastingshares.falls import by_pushes, by_shares, fall, fall_to
from lastingshares.tables import Table
from support import (GREAT, MIXED, check_arrows_named, check_error, check_states_named, complete, slow_held,
                     slow_push, slow_share_push)

CHAIN = Chain([[0, 2, 3], [5, 0, 7], [1, 0, 0]])
TABLES = MIXED[::2] + GREAT[8:10]


def two_arrows(table):
    return [(one, other) for one, other in product(table.arrows(), repeat=2) if one != other]


def slow_fall(table, one, other, states):
    """The fall among the trees to these states."""
    none, first, second, both = [sum(slow_held(table, held, c) for c in states)
                                 for held in ([], [one], [other], [one, other])]
    return first * second - none * both


class Falls(unittest.TestCase):
    def test_among_the_trees_to_a_state(self):
        for table in TABLES:
            for one, other in two_arrows(table)[::3]:
                for c in range(table.size):
                    self.assertEqual(fall_to(table, one, list(other), c), slow_fall(table, one, other, [c]))

    def test_among_all_trees(self):
        for table in TABLES:
            for one, other in two_arrows(table)[1::3]:
                self.assertEqual(fall(table, list(one), other), slow_fall(table, one, other, range(table.size)))

    def test_edges(self):
        self.assertEqual([fall_to(CHAIN, (0, 1), (1, 2), c) for c in range(3)], [0, 0, -210])
        self.assertEqual((fall(CHAIN, (0, 1), (1, 2)), fall(CHAIN, (1, 2), (0, 1))), (-224, -224))
        # Arrows with the same tail, and one against its own way back.
        self.assertEqual((fall_to(CHAIN, (0, 1), (0, 2), 2), fall(CHAIN, (0, 1), (0, 2))), (14 * 36, 16 * 36))
        self.assertEqual((fall_to(CHAIN, (0, 1), (1, 0), 2), fall(CHAIN, (0, 1), (1, 0))), (14 * 15, 16 * 20))
        self.assertEqual((fall(complete(2), (0, 1), (1, 0)), fall_to(complete(2), (0, 1), (1, 0), 0)), (1, 0))
        # In a complete chain of 8 states an arrow that does not leave c is in 2 of 8 or in 1 of 8 trees to c.
        trees = 8 ** 6
        self.assertEqual(fall_to(complete(8), (0, 1), (0, 2), 3), (trees // 8) ** 2)
        self.assertEqual(fall_to(complete(8), (0, 1), (0, 3), 3), trees // 8 * (trees // 4))
        self.assertEqual(fall_to(complete(8) * 10 ** 12, (0, 1), (0, 2), 3), (trees // 8) ** 2 * 10 ** 168)


class Products(unittest.TestCase):
    def test_by_pushes(self):
        for table in TABLES:
            for one, other in two_arrows(table)[2::3]:
                (a, b), (g, h) = one, other
                rates = table.rows[a][b] * table.rows[g][h]
                for c in range(table.size):
                    expected = 0
                    if c not in (a, g):
                        expected = rates * slow_push(table, a, b, c, g) * slow_push(table, g, h, c, a)
                    self.assertEqual(by_pushes(table, list(one), other, c), expected)

    def test_by_shares(self):
        for table in TABLES:
            for one, other in two_arrows(table)[::3]:
                (a, b), (g, h) = one, other
                rates = table.rows[a][b] * table.rows[g][h]
                expected = rates * slow_share_push(table, a, b, g) * slow_share_push(table, g, h, a)
                self.assertEqual(by_shares(table, one, list(other)), expected)

    def test_they_are_the_falls(self):
        for table in TABLES:
            for one, other in two_arrows(table):
                self.assertEqual(by_shares(table, one, other), fall(table, one, other))
                for c in range(table.size):
                    self.assertEqual(by_pushes(table, one, other, c), fall_to(table, one, other, c))
        great = Table([[0 if x == y else 10 ** 12 - 9 * x - y for y in range(8)] for x in range(8)])
        for one, other, c in (((0, 1), (2, 3), 4), ((0, 1), (0, 3), 7), ((6, 1), (1, 6), 3)):
            self.assertEqual(by_pushes(great, one, other, c), fall_to(great, one, other, c))
            self.assertEqual(by_shares(great, one, other), fall(great, one, other))


class Errors(unittest.TestCase):
    def test_arrows(self):
        for call in (fall, by_shares):
            check_arrows_named(self, lambda *arrows, call=call: call(CHAIN, *arrows), CHAIN, [(0, 1), (1, 2)])
        for call in (fall_to, by_pushes):
            for c in (0, 2, True, 3, None):
                check_arrows_named(self, lambda *two, call=call, c=c: call(CHAIN, *two, c), CHAIN, [(0, 1), (1, 2)])

    def test_states_come_behind_arrows(self):
        for call in (fall_to, by_pushes):
            check_states_named(self, call, CHAIN, ((0, 1), [1, 2], 2), at=(2,))
            check_error(self, BadPair(1), call, CHAIN, (0, 1), [0, 1], 9)
            check_error(self, NotArrow(2, 1), call, CHAIN, (0, 1), [2, 1], 9)
            check_error(self, BadPair(0), call, CHAIN, (1, 1), [2, 1], 9)

    def test_arrows_stay_as_they_were(self):
        one, other = [0, 1], [1, 2]
        fall_to(CHAIN, one, other, 2)
        by_shares(CHAIN, one, other)
        self.assertEqual((one, other), ([0, 1], [1, 2]))


if __name__ == "__main__":
    unittest.main()
