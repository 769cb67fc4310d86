"""lastingshares.chains: chains, the lot of a table that is not joined, lists of pairs and of arrows."""

import unittest

from lastingshares.chains import Chain, arrow_list, is_joined, pair_list, same_shape
from lastingshares.errors import (BadNumber, BadPair, BadRow, BadState, BadTable, NotArrow, NotJoined, OtherSize,
                                  SameState)
from lastingshares.tables import Table
from support import CHAINS, TABLES, check_error, complete, empty, slow_walks

JOINED = [[0, 2, 0], [1, 0, 3], [4, 0, 0]]
NO_LISTS = [None, 3, True, "01", {0: 1}, {0, 1}, range(2)]


def reached(table, x):
    return tuple(y for y in range(table.size) if slow_walks(table, x, y))


def first_lot(table):
    """The lot of point 4, or None if the table is joined."""
    for x in range(table.size):
        if len(reached(table, x)) < table.size:
            return reached(table, x)
    return None


class Making(unittest.TestCase):
    def test_joined_or_not(self):
        for table in TABLES:
            lot = first_lot(table)
            self.assertIs(is_joined(table), lot is None)
            if lot is None:
                chain = Chain([list(row) for row in table.rows])
                self.assertEqual((chain.rows, chain.size, chain.many), (table.rows, table.size, table.many))
                self.assertEqual((list(chain), chain.WORD), (list(table), "chain"))
            else:
                check_error(self, NotJoined(lot), Chain, table.rows)

    def test_edges(self):
        for size in range(2, 9):
            self.assertIs(is_joined(complete(size)), True)
            self.assertIs(is_joined(empty(size)), False)
            check_error(self, NotJoined((0,)), Chain, [[0] * size for _ in range(size)])
        check_error(self, NotJoined((1,)), Chain, [[0, 1], [0, 0]])

    def test_errors_of_tables_come_first(self):
        check_error(self, BadTable(-1, -1), Chain, [[0]])
        check_error(self, BadTable(1, -1), Chain, [[0, 0], [0]])
        check_error(self, BadTable(1, 0), Chain, [[0, 0], [True, 0]])

    def test_a_chain_has_all_that_a_table_has(self):
        chain = Chain(JOINED)
        self.assertEqual((chain.rate(1, 2), chain[2, 0], chain.out_of(1), chain.heads(1), chain.tails(0)),
                         (3, 4, 4, (0, 2), (1, 2)))
        self.assertIs((2, 0) in chain, True)
        check_error(self, SameState(0, 1), chain.rate, 1, 1)
        check_error(self, BadState(0), chain.heads, 3)

    def test_a_chain_does_not_change_with_its_list(self):
        rows = [[0, 1], [1, 0]]
        chain = Chain(rows)
        rows[0][1] = 0
        self.assertEqual(chain.rows, ((0, 1), (1, 0)))


class Kinds(unittest.TestCase):
    def test_signs_and_changes_return_chains(self):
        for chain in CHAINS[::5]:
            table = Table(chain.rows)
            for one, other in ((chain * 3, table * 3), (~chain, ~table), (chain + chain, table + table),
                               (chain.times(1, 4), table.times(1, 4)),
                               (chain.with_rate(1, 0, 6), table.with_rate(1, 0, 6))):
                self.assertIs(type(one), Chain)
                self.assertEqual(one, other)
            for one in (chain + table, table + chain):
                self.assertIs(type(one), Table)
                self.assertEqual(one, table + table)

    def test_with_rate_keeps_a_chain_joined(self):
        chain = Chain(JOINED)
        for x, y in chain.pairs_of(3):
            lot = first_lot(Table(JOINED).with_rate(x, y, 0))
            if lot is None:
                self.assertIs(type(chain.with_rate(x, y, 0)), Chain)
            else:
                check_error(self, NotJoined(lot), chain.with_rate, x, y, 0)
        check_error(self, NotJoined((0, 1)), Chain([[0, 1, 0], [1, 0, 1], [1, 0, 0]]).with_rate, 1, 2, 0)

    def test_errors(self):
        chain = Chain.around([1, 1, 1])
        for rate in (True, -1, None):
            check_error(self, BadNumber("rate"), chain.with_rate, 0, 1, rate)
            check_error(self, SameState(0, 1), chain.with_rate, 1, 1, rate)
            check_error(self, BadState(0), chain.with_rate, False, 7, rate)
            check_error(self, BadState(1), chain.with_rate, 0, 3, rate)
        for k in (True, False, 0, -1, "2"):
            check_error(self, BadNumber("k"), lambda one: one * k, chain)
            check_error(self, BadNumber("number"), chain.times, 0, k)
            check_error(self, BadState(0), chain.times, 3, k)
        check_error(self, OtherSize(2), lambda one: one + Chain.around([1, 1]), chain)
        check_error(self, OtherSize(2), lambda one: one + empty(2), chain)


class Around(unittest.TestCase):
    def test_rings_of_all_sizes(self):
        for size in range(2, 9):
            rates = list(range(1, size + 1))
            chain = Chain.around(rates)
            self.assertIs(type(chain), Chain)
            self.assertEqual(list(chain), sorted((x, (x + 1) % size) for x in range(size)))
            self.assertEqual([chain.out_of(x) for x in range(size)], rates)
            self.assertEqual(rates, list(range(1, size + 1)))
        self.assertEqual(Chain.around((5, 7)).rows, ((0, 5), (7, 0)))

    def test_errors(self):
        for thing in NO_LISTS + [[], [1], [1] * 9, [True]]:
            check_error(self, BadRow(-1), Chain.around, thing)
        for rate in (True, False, 0, -1, None, "1", 1.0):
            check_error(self, BadRow(0), Chain.around, [rate, 1, 1])
            check_error(self, BadRow(1), Chain.around, (1, rate, rate))
        check_error(self, BadRow(0), Chain.around, [0, True])


class OfArrows(unittest.TestCase):
    def test_arrows(self):
        for chain in CHAINS[::3]:
            arrows = [list(arrow) for arrow in reversed(list(chain))]
            made = Chain.of_arrows(chain.size, arrows)
            self.assertIs(type(made), Chain)
            self.assertEqual(list(made), list(chain))
            self.assertEqual({made[x, y] for x, y in made}, {1})
            self.assertEqual(arrows, [list(arrow) for arrow in reversed(list(chain))])
        self.assertEqual(Chain.of_arrows(2, ([1, 0], (0, 1))).rows, ((0, 1), (1, 0)))
        self.assertEqual(Chain.of_arrows(8, Table.pairs_of(8)), complete(8))

    def test_errors(self):
        for size in (True, False, None, "3", 1, 9, -1, 0, 3.0):
            check_error(self, BadNumber("size"), Chain.of_arrows, size, None)
        for thing in NO_LISTS:
            check_error(self, BadPair(-1), Chain.of_arrows, 3, thing)
        check_error(self, BadPair(1), Chain.of_arrows, 3, [(0, 1), (1, 1)])
        check_error(self, BadPair(2), Chain.of_arrows, 3, [(0, 1), (1, 2), [0, 1]])
        check_error(self, NotJoined((0, 1)), Chain.of_arrows, 3, [(0, 1), (1, 0), (2, 0)])
        check_error(self, NotJoined((0,)), Chain.of_arrows, 3, [])


class Lists(unittest.TestCase):
    def test_pair_list(self):
        given = [[2, 1], (0, 3), (0, 1), [1, 2]]
        self.assertEqual(pair_list(4, given), ((0, 1), (0, 3), (1, 2), (2, 1)))
        self.assertEqual(given, [[2, 1], (0, 3), (0, 1), [1, 2]])
        self.assertEqual((pair_list(2, ()), pair_list(2, [])), ((), ()))
        self.assertEqual(pair_list(8, tuple(reversed(Table.pairs_of(8)))), tuple(Table.pairs_of(8)))

    def test_errors_of_pairs(self):
        calls = (lambda pairs: pair_list(3, pairs), lambda pairs: arrow_list(complete(3), pairs))
        wrong = NO_LISTS + [[], [0], (0, 1, 2), (0, 0), (0, 3), (-1, 0), (True, 0), (1, False), (0, None), [[0], 1]]
        for call in calls:
            for thing in NO_LISTS:
                check_error(self, BadPair(-1), call, thing)
            for pair in wrong:
                check_error(self, BadPair(0), call, [pair])
                check_error(self, BadPair(1), call, ((0, 1), pair, pair))
            check_error(self, BadPair(2), call, [(0, 1), (1, 0), [0, 1]])
            check_error(self, BadPair(1), call, [(0, 1), [0, 1], (0, 0)])
            check_error(self, BadPair(1), call, [(0, 1), (0, 0), (0, 1)])

    def test_arrow_list(self):
        for table in TABLES:
            arrows = list(reversed(table.arrows()))
            self.assertEqual(arrow_list(table, arrows), tuple(table.arrows()))
            missing = [pair for pair in table.pairs_of(table.size) if pair not in table]
            if missing:
                check_error(self, NotArrow(*missing[0]), arrow_list, table, arrows + list(reversed(missing)))
        self.assertEqual(arrow_list(empty(2), []), ())
        check_error(self, BadPair(1), arrow_list, empty(3), [(0, 1), (2, 2)])

    def test_same_shape(self):
        for table in TABLES[::3]:
            for other in TABLES[::5]:
                self.assertIs(same_shape(table, other),
                              table.size == other.size and table.arrows() == other.arrows())
            self.assertIs(same_shape(table, table * 3), True)
        self.assertIs(same_shape(Chain(JOINED), Table(JOINED).times(0, 5)), True)
        self.assertIs(same_shape(empty(3), empty(4)), False)
        self.assertIs(same_shape(Chain(JOINED), ~Chain(JOINED)), False)


if __name__ == "__main__":
    unittest.main()
