"""lastingshares.lumped: lumped currents, lump sums, alike lumps and their table."""

import unittest
from itertools import permutations

from lastingshares.chains import Chain
from lastingshares.errors import BadSet
from lastingshares.lumped import alike_table, is_alike, lot_row, lumped
from lastingshares.tables import Table
from support import CHAINS, MIXED, check_error, complete, empty, slow_trees_of

CHAIN = Chain([[0, 2, 0], [1, 0, 1], [3, 0, 0]])
TABLES = MIXED[::2] + CHAINS[::5]
# Alike in (0, 2) and (1, 3), whatever the rates inside these are; and in (0, 2), (1) and (3).
ALIKE = Table([[0, 2, 7, 3], [1, 0, 0, 9], [0, 2, 0, 3], [0, 0, 1, 0]])


def lumps_for(size):
    """Lumps in several orders: one alone, lumps of one state each, and others."""
    states = list(range(size))
    found = [[states], [[x] for x in states[::-1]], [states[1:], states[:1]], [states[::2], states[1::2]],
             [states[:1], states[:0:-1]]]
    return found + [[states[:2], *[[x] for x in states[2:]]], [[x] for x in states]]


def slow_alike_rows(table, lots):
    rows = []
    for i, lump in enumerate(lots):
        found = [[0 if i == j else sum(table.rows[x][y] for y in other) for j, other in enumerate(lots)] for x in lump]
        if any(line != found[0] for line in found):
            return None
        rows.append(found[0])
    return rows


class Lumps(unittest.TestCase):
    def test_currents_and_sums(self):
        for table in TABLES:
            sums = slow_trees_of(table)
            for lots in lumps_for(table.size):
                kept = [list(lump) for lump in lots]
                expected = tuple(tuple(0 if i == j else sum(sums[x] * table.rows[x][y] for x in one for y in other)
                                       for j, other in enumerate(lots)) for i, one in enumerate(lots))
                self.assertEqual(lumped(table, lots), expected)
                self.assertEqual(lumped(table, tuple(map(tuple, lots))), expected)
                self.assertEqual({type(line) for line in lumped(table, lots)}, {tuple})
                row = tuple(sum(sums[x] for x in lump) for lump in lots)
                self.assertEqual((type(lot_row(table, lots)), lot_row(table, lots)), (tuple, row))
                self.assertEqual(lots, kept)

    def test_alike_lumps(self):
        seen = set()
        for table in TABLES + [ALIKE, complete(4), Chain.around([5, 3, 5, 3])]:
            for lots in lumps_for(table.size):
                rows = slow_alike_rows(table, lots)
                self.assertIs(is_alike(table, lots), rows is not None)
                found = alike_table(table, tuple(map(tuple, lots)))
                if rows is None or len(lots) == 1:
                    self.assertIsNone(found)
                else:
                    self.assertEqual((type(found), found), (Table, Table(rows)))
                seen.add((rows is not None, len(lots) > 1))
        self.assertEqual(seen, {(True, True), (True, False), (False, True)})

    def test_edges(self):
        self.assertEqual((lumped(CHAIN, [[0, 1, 2]]), lot_row(CHAIN, [(2, 0, 1)])), (((0,),), (14,)))
        self.assertEqual((is_alike(CHAIN, [[0, 1, 2]]), alike_table(CHAIN, [[0, 1, 2]])), (True, None))
        self.assertEqual(lumped(CHAIN, [[2], [1, 0]]), ((0, 6), (6, 0)))
        self.assertEqual((lot_row(CHAIN, [[2], [1, 0]]), lot_row(CHAIN, [[1, 0], [2]])), ((2, 12), (12, 2)))
        self.assertEqual(alike_table(CHAIN, [[2], [0], [1]]).rows, ((0, 3, 0), (0, 0, 2), (1, 1, 0)))
        self.assertIs(is_alike(CHAIN, [[2], [1, 0]]), False)
        # The rows of 1 and 3 differ inside their lump and in where they go, not in how much goes out of it.
        self.assertEqual(alike_table(ALIKE, [(0, 2), (1, 3)]).rows, ((0, 5), (1, 0)))
        self.assertEqual(alike_table(ALIKE, [(1, 3), (2, 0)]).rows, ((0, 1), (5, 0)))
        self.assertIsNone(alike_table(ALIKE, [(0, 1), (2, 3)]))
        self.assertEqual(alike_table(complete(8), [[7, 0, 3], [1, 2], [4, 5, 6]]).rows,
                         ((0, 2, 3), (3, 0, 3), (3, 2, 0)))
        self.assertEqual(alike_table(complete(8), [[x] for x in range(8)]), complete(8))
        self.assertEqual(alike_table(empty(3), [[0, 1], [2]]), empty(2))
        for order in permutations(range(3)):
            self.assertEqual(lot_row(complete(3), [[x] for x in order]), (3, 3, 3))

    def test_errors(self):
        for call in (lumped, lot_row, is_alike, alike_table):
            for table in (CHAIN, empty(3)):
                for thing in (None, 3, "012", {0: [0]}, range(3), {(0, 1, 2)}):
                    check_error(self, BadSet(-1), call, table, thing)
                for thing in (None, 0, "0", {0}, range(1), [], (), [0, 0], [3], [-1], [True], [None], ["0"], [(0,)]):
                    check_error(self, BadSet(0), call, table, [thing, [1], [2]])
                    check_error(self, BadSet(0), call, table, [thing])
                    check_error(self, BadSet(1), call, table, ([2], thing, thing))
                check_error(self, BadSet(1), call, table, [[0, 1], [2, 1]])
                check_error(self, BadSet(2), call, table, [[0], [1], (0, 2)])
                for thing in ([], (), [[0]], [[0, 2]], ([1], [2])):
                    check_error(self, BadSet(-2), call, table, thing)


if __name__ == "__main__":
    unittest.main()
