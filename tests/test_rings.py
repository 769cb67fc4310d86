"""lastingshares.rings: all rings, the rings of an arrow, weights and costs."""

import unittest

from lastingshares.chains import Chain
from lastingshares.errors import BadRing, BadState, NotArrow, SameState, TooMany
from lastingshares.rings import ring_cost, ring_of, ring_weight, rings, rings_along, rings_with
from lastingshares.tables import Table
from support import TABLES, check_error, check_new_list, complete, empty, ring_arrows, slow_rings

ROWS = [[0, 2, 0], [1, 0, 3], [4, 0, 0]]
NO_STATES = [True, False, -1, 3, None, "0", (0,)]


class AllRings(unittest.TestCase):
    def test_all_rings_ascending(self):
        for table in TABLES:
            expected = slow_rings(table)
            self.assertEqual(rings(table), expected)
            self.assertEqual(list(rings_along(table)), expected)

    def test_a_ring_comes_before_longer_ones(self):
        self.assertEqual(rings(complete(3)), [(0, 1), (0, 1, 2), (0, 2), (0, 2, 1), (1, 2)])

    def test_limits(self):
        for table in (empty(2), complete(2), Table(ROWS), complete(4)):
            expected = slow_rings(table)
            self.assertEqual(rings(table, limit=len(expected)), expected)
            self.assertEqual(rings(table, limit=len(expected) + 1), expected)
            if expected:
                check_error(self, TooMany(len(expected) - 1), rings, table, limit=len(expected) - 1)
                check_error(self, TooMany(0), rings, table, limit=0)
        self.assertEqual(rings(empty(8), limit=0), [])

    def test_eight_states(self):
        check_error(self, TooMany(2000), rings, complete(8))
        check_error(self, TooMany(16063), rings, complete(8), limit=16063)
        self.assertEqual(len(rings(complete(8), limit=16064)), 16064)
        self.assertEqual(next(rings_along(complete(8))), (0, 1))
        self.assertEqual((rings(empty(8)), rings(Chain.around([1] * 8))), ([], [(0, 1, 2, 3, 4, 5, 6, 7)]))
        downward = Table([[1 if x > y else 0 for y in range(8)] for x in range(8)])
        self.assertEqual(list(rings_along(downward)), [])

    def test_the_list_is_new(self):
        check_new_list(self, rings, complete(3))


class RingsWith(unittest.TestCase):
    def test_rings_of_each_arrow(self):
        for table in TABLES:
            expected = slow_rings(table)
            for x, y in table.pairs_of(table.size):
                if (x, y) in table:
                    self.assertEqual(rings_with(table, x, y), [c for c in expected if (x, y) in ring_arrows(c)])
                else:
                    check_error(self, NotArrow(x, y), rings_with, table, x, y)

    def test_an_arrow_without_rings(self):
        self.assertEqual(rings_with(Table([[0, 1], [0, 0]]), 0, 1), [])

    def test_eight_states(self):
        found = rings_with(complete(8), 5, 2)
        self.assertEqual((len(found), found == sorted(found)), (1957, True))
        self.assertTrue(all(ring[0] == min(ring) and (5, 2) in ring_arrows(ring) for ring in found))

    def test_the_list_is_new(self):
        check_new_list(self, rings_with, complete(3), 2, 0)

    def test_errors(self):
        for thing in NO_STATES:
            check_error(self, BadState(0), rings_with, empty(3), thing, thing)
            check_error(self, BadState(1), rings_with, empty(3), 0, thing)
        check_error(self, SameState(0, 1), rings_with, empty(3), 1, 1)
        check_error(self, NotArrow(0, 1), rings_with, empty(3), 0, 1)


class OneRing(unittest.TestCase):
    def test_from_any_state_on(self):
        for table in TABLES[::3]:
            for ring in slow_rings(table):
                weight = 1
                for x, y in ring_arrows(ring):
                    weight *= table.rows[x][y]
                for place in range(len(ring)):
                    for given in (ring[place:] + ring[:place], list(ring[place:] + ring[:place])):
                        kept = list(given)
                        self.assertEqual(ring_of(table, given), ring)
                        self.assertIs(type(ring_of(table, given)), tuple)
                        self.assertEqual(ring_weight(table, given), weight)
                        self.assertEqual(list(given), kept)

    def test_weights(self):
        table = Table(ROWS)
        self.assertEqual([ring_weight(table, ring) for ring in ([1, 0], (2, 0, 1))], [2, 24])
        self.assertEqual(ring_weight(complete(8) * 10, tuple(range(8))), 10 ** 8)

    def test_costs(self):
        costs = [[0, 1, 10], [100, 0, -1000], [7, 5, 0]]
        for ring, cost in (((0, 1), 101), ([1, 0], 101), ([0, 1, 2], -992), ((2, 0, 1), -992), ((0, 2, 1), 115)):
            self.assertEqual(ring_cost(costs, ring), cost)
        self.assertEqual(costs, [[0, 1, 10], [100, 0, -1000], [7, 5, 0]])

    def test_wrong_rings(self):
        table = Table(ROWS)
        for call in (ring_of, ring_weight):
            for thing in (None, 3, True, "01", {0: 1}, {0, 1}, range(2), [], (), [0], (1,), [True]):
                check_error(self, BadRing(-1), call, table, thing)
            for thing in NO_STATES:
                check_error(self, BadRing(0), call, table, [thing, thing])
                check_error(self, BadRing(1), call, table, (1, thing, 0))
            check_error(self, BadRing(2), call, table, [0, 1, 0])
            check_error(self, BadRing(1), call, table, (1, 1))
            check_error(self, BadRing(0), call, table, [0, 2])
            check_error(self, BadRing(1), call, table, [2, 0])
            check_error(self, BadRing(2), call, complete(3).with_rate(2, 0, 0), [0, 1, 2])
            check_error(self, BadRing(1), call, complete(3).with_rate(2, 0, 0), [1, 2, 0])

    def test_states_are_checked_before_arrows(self):
        for call in (ring_of, ring_weight):
            check_error(self, BadRing(2), call, Table(ROWS), [0, 2, 3])
            check_error(self, BadRing(2), call, Table(ROWS), (2, 1, 2))


if __name__ == "__main__":
    unittest.main()
