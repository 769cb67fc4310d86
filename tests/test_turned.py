"""lastingshares.turned: tables of currents, even and balanced tables, net currents, tables of weighted rings."""

import unittest

from lastingshares.chains import Chain
from lastingshares.errors import BadNumber, BadRing
from lastingshares.tables import Table
from lastingshares.turned import current_table, is_balanced, is_even, net, net_verdict, of_rings
from support import (CHAINS, MIXED, SHAPES, check_error, check_states_named, complete, empty, ring_arrows,
                     several_rates, sign, slow_carried, slow_ring_word, slow_rings, slow_trees_of)

CHAIN = Chain([[0, 2, 0], [1, 0, 1], [3, 0, 0]])
SIGNS = {"above": (1,), "below": (-1,), "still": (0,), "mixed": (-1, 0, 1)}
FEW = SHAPES[:19] + SHAPES[19:80:2] + SHAPES[80::3]


def slow_current_rows(table):
    return tuple(tuple(number * rate for rate in row) for number, row in zip(slow_trees_of(table), table.rows))


def even_tables():
    return [Table(slow_current_rows(chain)) for chain in CHAINS[::6]]


class Currents(unittest.TestCase):
    def test_current_tables(self):
        for table in MIXED + CHAINS[::4]:
            found = current_table(table)
            self.assertEqual((type(found), found.rows), (Table, slow_current_rows(table)))
        self.assertEqual(current_table(complete(8)).rows, (complete(8) * 8 ** 6).rows)

    def test_even_tables(self):
        seen = set()
        for table in MIXED + CHAINS[::4] + even_tables():
            states = range(table.size)
            even = all(sum(table.rows[x]) == sum(table.rows[y][x] for y in states) for x in states)
            self.assertIs(is_even(table), even)
            seen.add(even)
        self.assertEqual(seen, {True, False})
        for table in (empty(2), empty(8), complete(8), Chain.around([7] * 8)):
            self.assertIs(is_even(table), True)
        for table in (Chain.around([7] * 7 + [8]), Table([[0, 1], [0, 0]])):
            self.assertIs(is_even(table), False)

    def test_balanced_tables(self):
        seen = set()
        for table in MIXED + CHAINS[::2] + even_tables():
            rows = slow_current_rows(table)
            balanced = all(rows[x][y] == rows[y][x] for x, y in table.pairs_of(table.size))
            self.assertIs(is_balanced(table), balanced)
            seen.add(balanced)
        self.assertEqual(seen, {True, False})
        for table in (empty(3), complete(8), Table([[0, 5, 0], [0, 0, 2], [0, 0, 0]]),
                      Chain([[0, 10 ** 12, 0], [1, 0, 3], [0, 7, 0]]), complete(2).times(0, 9)):
            self.assertIs(is_balanced(table), True)
        self.assertIs(is_balanced(Chain.around([1, 1, 1])), False)

    def test_net_currents(self):
        for table in MIXED + CHAINS[::4]:
            rows = slow_current_rows(table)
            for x, y in table.pairs_of(table.size):
                self.assertEqual(net(table, x, y), rows[x][y] - rows[y][x])
        self.assertEqual([net(CHAIN, x, y) for x, y in CHAIN.pairs_of(3)], [6, -6, -6, 6, 6, -6])

    def test_words_of_net_currents(self):
        seen = set()
        for chain in FEW:
            rings = [ring_arrows(ring) for ring in slow_rings(chain) if len(ring) >= 3]
            tables = [slow_current_rows(rates) for rates in several_rates(chain, 4)]
            for x, y in chain.pairs_of(chain.size):
                word = slow_ring_word([((x, y) in ring) - ((y, x) in ring) for ring in rings])
                self.assertEqual(net_verdict(chain, x, y), word)
                for rows in tables:
                    self.assertIn(sign(rows[x][y] - rows[y][x]), SIGNS[word])
                seen.add(word)
        self.assertEqual(seen, set(SIGNS))

    def test_edges(self):
        self.assertEqual([net_verdict(CHAIN, x, y) for x, y in CHAIN.pairs_of(3)],
                         ["above", "below", "below", "above", "above", "below"])
        self.assertEqual(net_verdict(complete(2), 0, 1), "still")
        self.assertEqual((net_verdict(complete(8), 6, 7), net_verdict(complete(3), 0, 2)), ("mixed", "mixed"))
        line = Chain([[0, 1, 0], [1, 0, 1], [0, 1, 0]])
        self.assertEqual([net_verdict(line, x, y) for x, y in line.pairs_of(3)], ["still"] * 6)
        around = Chain.around([4] * 8)
        self.assertEqual([net_verdict(around, x, y) for x, y in ((7, 0), (0, 7), (0, 2))], ["above", "below", "still"])

    def test_errors(self):
        for table in (CHAIN, empty(3)):
            check_states_named(self, net, table, (0, 1), same=((0, 1),))
        check_states_named(self, net_verdict, CHAIN, (0, 1), same=((0, 1),))


class WeightedRings(unittest.TestCase):
    def test_sums_of_weights(self):
        for size in (2, 3, 5, 8):
            states = list(range(size))
            rings = [(states, 5), [tuple(states[::-1]), 2], ((1, 0), 10 ** 12), (states[1:] + states[:1], 7),
                     ([0, size - 1], 1), [[0, 1], 4]]
            kept = [(list(ring), weight) for ring, weight in rings]
            for many in range(len(rings) + 1):
                rows = [[0] * size for _ in range(size)]
                for ring, weight in rings[:many]:
                    for x, y in ring_arrows(tuple(ring)):
                        rows[x][y] += weight
                found = of_rings(size, rings[:many])
                self.assertEqual((type(found), found), (Table, Table(rows)))
                self.assertEqual(of_rings(size, tuple(rings[:many])), found)
                self.assertIs(is_even(found), True)
            self.assertEqual([(list(ring), weight) for ring, weight in rings], kept)

    def test_current_tables_of_rings(self):
        for table in MIXED[::2] + CHAINS[::4]:
            rings = [(ring, slow_carried(table, ring)) for ring in slow_rings(table)]
            self.assertEqual(of_rings(table.size, [two for two in rings if two[1] > 0]), current_table(table))

    def test_edges(self):
        self.assertEqual((of_rings(2, []), of_rings(8, ())), (empty(2), empty(8)))
        self.assertEqual(of_rings(3, [[(0, 1), 6], [(0, 1, 2), 6]]).rows, ((0, 12, 0), (6, 0, 6), (6, 0, 0)))
        self.assertEqual(of_rings(3, [[(2, 0, 1), 1], [(1, 2, 0), 1], [(0, 1, 2), 1]]).rows,
                         Chain.around([3] * 3).rows)
        self.assertEqual(of_rings(2, [[(1, 0), 1]]).rows, ((0, 1), (1, 0)))

    def test_errors(self):
        for thing in (True, None, 1, 9, 0, -3, "3", (3,)):
            check_error(self, BadNumber("size"), of_rings, thing, [])
            check_error(self, BadNumber("size"), of_rings, thing, None)
        for thing in (None, 3, "01", {(0, 1): 2}, {((0, 1), 2)}, range(2)):
            check_error(self, BadRing(-1), of_rings, 3, thing)
        wrong = [None, 5, "01", {0: 1}, (), ((0, 1),), ((0, 1), 1, 1), (None, 1), ("01", 1), ({0, 1}, 1), ([], 1),
                 ([0], 1), ([0, 0], 1), ([0, 1, 0], 1), ([0, 3], 1), ([-1, 0], 1), ([True, 0], 1), ([0, None], 1),
                 ([0, (1,)], 1), ((0, 1), 0), ((0, 1), -2), ((0, 1), True), ((0, 1), None), ((0, 1), "1"), (1, (0, 1))]
        for thing in wrong:
            check_error(self, BadRing(0), of_rings, 3, [thing])
            check_error(self, BadRing(0), of_rings, 3, (thing, thing))
            check_error(self, BadRing(2), of_rings, 3, [((0, 1), 1), [[2, 1, 0], 4], thing, None])


if __name__ == "__main__":
    unittest.main()
