"""lastingshares.tables: what a table holds, its signs, changed rates, sums."""

import unittest

from lastingshares.chains import Chain
from lastingshares.errors import BadNumber, BadState, BadTable, OtherSize, SameState
from lastingshares.tables import Table, summed
from support import TABLES, check_error, check_new_list, complete, empty

ROWS = [[0, 2, 0], [1, 0, 0], [0, 5, 0]]
JOINED = [[0, 2, 0], [1, 0, 3], [4, 0, 0]]
NO_STATES = [True, False, -1, 3, None, "0", (0,), 0.0]
NO_LISTS = [None, 3, True, "012", {0: [0, 0]}, range(2)]


class Making(unittest.TestCase):
    def test_lists_and_tuples(self):
        rows = ((0, 2, 0), (1, 0, 0), (0, 5, 0))
        for given in (ROWS, rows, [tuple(row) for row in ROWS], tuple(ROWS)):
            table = Table(given)
            self.assertEqual(table.rows, rows)
            self.assertIs(type(table.rows), tuple)
            self.assertEqual({type(row) for row in table.rows}, {tuple})
            self.assertEqual((table.size, table.many, table.WORD), (3, 3, "table"))

    def test_sizes(self):
        for size in range(2, 9):
            self.assertEqual((empty(size).size, empty(size).many, len(empty(size))), (size, 0, 0))
            many = size * (size - 1)
            self.assertEqual((complete(size).size, complete(size).many, len(complete(size))), (size, many, many))
        for size in (0, 1, 9, 10):
            check_error(self, BadTable(-1, -1), Table, [[0] * size for _ in range(size)])

    def test_a_table_does_not_change_with_its_list(self):
        rows = [[0, 2, 0], [1, 0, 0], [0, 5, 0]]
        table = Table(rows)
        rows[0][1] = 9
        rows[1] = [7, 0, 7]
        rows.append([0, 0, 0])
        self.assertEqual(table.rows, ((0, 2, 0), (1, 0, 0), (0, 5, 0)))
        self.assertEqual((table.size, table.rate(0, 1), list(table)), (3, 2, [(0, 1), (1, 0), (2, 1)]))

    def test_making_keeps_the_argument(self):
        rows = [[0, 2], (1, 0)]
        Table(rows)
        self.assertEqual(rows, [[0, 2], (1, 0)])

    def test_large_rates(self):
        table = Table([[0, 10 ** 30], [1, 0]])
        self.assertEqual((table.rate(0, 1), (table * 10).rate(0, 1)), (10 ** 30, 10 ** 31))


class WrongRows(unittest.TestCase):
    def test_wrong_as_a_whole(self):
        for thing in NO_LISTS:
            check_error(self, BadTable(-1, -1), Table, thing)

    def test_wrong_row(self):
        for row in NO_LISTS + [[], [0], [0, 1, 2, 3]]:
            check_error(self, BadTable(0, -1), Table, [row, [1, 0, 0], [1, 0, 0]])
            check_error(self, BadTable(1, -1), Table, [[0, 1, 0], row, row])
            check_error(self, BadTable(2, -1), Table, ([0, 1, 0], [0, 0, 1], row))

    def test_wrong_entry(self):
        for thing in (True, False, -1, None, "1", 1.0, [1]):
            check_error(self, BadTable(0, 1), Table, [[0, thing], [1, 0]])
            check_error(self, BadTable(1, 0), Table, [[0, 1], [thing, 0]])
            check_error(self, BadTable(0, 0), Table, [[thing, thing], [1, 0]])
        check_error(self, BadTable(0, 0), Table, [[1, 1], [1, 0]])
        check_error(self, BadTable(1, 1), Table, [[0, 1], [1, 3]])

    def test_rows_are_checked_one_after_the_other(self):
        check_error(self, BadTable(0, 1), Table, [[0, -1, 0], None, [0, 0, 0]])
        check_error(self, BadTable(0, -1), Table, [[0, 1], [0, -1, 0], [0, 0, 0]])
        check_error(self, BadTable(1, 2), Table, [[0, 1, 1], [0, 0, True], [0, 0]])
        check_error(self, BadTable(-1, -1), Table, [[-1]])


class Views(unittest.TestCase):
    def test_views_of_many_tables(self):
        for table in TABLES:
            states = range(table.size)
            arrows = [(x, y) for x in states for y in states if table.rows[x][y] > 0]
            self.assertEqual((table.arrows(), list(table), len(table), table.many),
                             (arrows, arrows, len(arrows), len(arrows)))
            for x in states:
                self.assertEqual(table.out_of(x), sum(table.rows[x]))
                self.assertEqual(table.heads(x), tuple(y for y in states if (x, y) in arrows))
                self.assertEqual(table.tails(x), tuple(y for y in states if (y, x) in arrows))
            for x, y in table.pairs_of(table.size):
                self.assertEqual((table.rate(x, y), table[x, y]), (table.rows[x][y], table.rows[x][y]))
                self.assertIs((x, y) in table, table.rows[x][y] > 0)
                self.assertIs([x, y] in table, table.rows[x][y] > 0)

    def test_kinds_of_the_results(self):
        table = Table(ROWS)
        self.assertEqual({type(arrow) for arrow in list(table) + table.arrows()}, {tuple})
        self.assertEqual((type(table.heads(0)), type(table.tails(0))), (tuple, tuple))

    def test_pairs_of(self):
        self.assertEqual(Table.pairs_of(2), [(0, 1), (1, 0)])
        self.assertEqual(Table(ROWS).pairs_of(3), [(0, 1), (0, 2), (1, 0), (1, 2), (2, 0), (2, 1)])
        self.assertEqual(len(Chain.pairs_of(8)), 56)

    def test_lists_are_new(self):
        table = Table(ROWS)
        check_new_list(self, table.arrows)
        check_new_list(self, Table.pairs_of, 3)
        table.arrows().clear()
        self.assertEqual((list(table), len(table)), ([(0, 1), (1, 0), (2, 1)], 3))

    def test_iterating_twice_at_once(self):
        table = Table(ROWS)
        self.assertEqual(len([(one, other) for one in table for other in table]), 9)

    def test_other_things_are_not_in_a_table(self):
        table = Table(JOINED)
        for thing in (None, 0, "01", (0,), (0, 1, 0), (0, 0), (1, 1), (0, 3), (3, 0), (-3, 1), (-1, 0), (False, 1),
                      (0, True), (0.0, 1), ("0", "1"), {0: 1, 1: 0}, {0, 1}, [[0], 1], (0, None), table, (0, 2)):
            self.assertIs(thing in table, False)

    def test_errors_of_states(self):
        table = Table(ROWS)
        for thing in NO_STATES:
            for call in (table.out_of, table.heads, table.tails):
                check_error(self, BadState(0), call, thing)
            check_error(self, BadState(0), table.rate, thing, thing)
            check_error(self, BadState(1), table.rate, 0, thing)
            check_error(self, BadState(0), lambda at: table[at], (thing, 0))
            check_error(self, BadState(1), lambda at: table[at], (0, thing))
        for x in range(3):
            check_error(self, SameState(0, 1), table.rate, x, x)
            check_error(self, SameState(0, 1), lambda at: table[at], (x, x))


class Changes(unittest.TestCase):
    def test_with_rate(self):
        for table in TABLES:
            for x, y in table.pairs_of(table.size):
                for rate in (0, 7):
                    rows = [list(row) for row in table.rows]
                    rows[x][y] = rate
                    changed = table.with_rate(x, y, rate)
                    self.assertEqual(changed, Table(rows))
                    self.assertIs(type(changed), Table)

    def test_times(self):
        for table in TABLES:
            for x in range(table.size):
                rows = [[rate * 5 for rate in row] if z == x else row for z, row in enumerate(table.rows)]
                self.assertEqual(table.times(x, 5), Table(rows))
                self.assertEqual(table.times(x, 1), table)
                self.assertIs(type(table.times(x, 5)), Table)

    def test_the_first_table_stays(self):
        table = Table(ROWS)
        table.with_rate(0, 1, 9)
        table.times(0, 3)
        for _ in (table + table, table * 3, ~table, summed(table, table)):
            self.assertEqual(table.rows, ((0, 2, 0), (1, 0, 0), (0, 5, 0)))

    def test_errors_of_with_rate(self):
        table = Table(ROWS)
        for rate in (True, False, -1, None, "1", 1.0):
            check_error(self, BadNumber("rate"), table.with_rate, 0, 1, rate)
            check_error(self, SameState(0, 1), table.with_rate, 1, 1, rate)
        for thing in NO_STATES:
            check_error(self, BadState(0), table.with_rate, thing, thing, -1)
            check_error(self, BadState(1), table.with_rate, 1, thing, -1)

    def test_errors_of_times(self):
        table = Table(ROWS)
        for number in (True, False, 0, -1, None, "1", 1.0):
            check_error(self, BadNumber("number"), table.times, 0, number)
            check_error(self, BadState(0), table.times, 3, number)
        for thing in NO_STATES:
            check_error(self, BadState(0), table.times, thing, 2)


class Signs(unittest.TestCase):
    def test_equal(self):
        table = Table(JOINED)
        for other in (Table(JOINED), Chain(JOINED), Table(tuple(JOINED))):
            self.assertIs(table == other, True)
            self.assertIs(other == table, True)
            self.assertIs(table != other, False)
        for other in (Table(ROWS), Table([[0, 2], [1, 0]]), table.rows, JOINED, None, 3):
            self.assertIs(table == other, False)
            self.assertIs(table != other, True)
            self.assertIs(Chain(JOINED) == other, False)

    def test_sums(self):
        tables = TABLES[::7]
        for table in tables:
            for other in tables:
                if table.size == other.size:
                    rows = [[r + s for r, s in zip(*two)] for two in zip(table.rows, other.rows)]
                    self.assertEqual(table + other, Table(rows))
                    self.assertIs(type(table + other), Table)
                else:
                    check_error(self, OtherSize(other.size), lambda one: one + other, table)

    def test_multiples(self):
        for table in TABLES:
            self.assertEqual(table * 4, Table([[rate * 4 for rate in row] for row in table.rows]))
            self.assertIs(type(table * 4), Table)
        self.assertEqual(Table(ROWS) * 1, Table(ROWS))
        for k in (True, False, 0, -2, None, "2", 1.0):
            check_error(self, BadNumber("k"), lambda one: one * k, Table(ROWS))

    def test_turned(self):
        for table in TABLES:
            turned = ~table
            self.assertIs(type(turned), Table)
            for x, y in table.pairs_of(table.size):
                self.assertEqual(turned[x, y], table[y, x])

    def test_new_tables(self):
        table = Table(ROWS)
        for other in (table * 1, ~~table, table + empty(3)):
            self.assertEqual(other, table)
            self.assertIsNot(other, table)


class Summed(unittest.TestCase):
    def test_sums(self):
        one, two, three = Table(ROWS), Chain(JOINED), Chain(JOINED) * 2
        self.assertEqual(summed(one, two, three), one + two + three)
        self.assertEqual(summed(one), one)
        self.assertEqual(summed(two), two)

    def test_kinds(self):
        table, chain = Table(JOINED), Chain(JOINED)
        for tables in ((chain,), (chain, chain), (chain, chain, chain)):
            self.assertIs(type(summed(*tables)), Chain)
        for tables in ((table,), (table, table), (chain, table), (table, chain), (chain, chain, table)):
            self.assertIs(type(summed(*tables)), Table)

    def test_errors(self):
        check_error(self, BadNumber("tables"), summed)
        check_error(self, OtherSize(4), summed, Table(ROWS), Table(ROWS), complete(4), complete(5), Table(ROWS))
        check_error(self, OtherSize(3), summed, complete(4), Table(ROWS))


if __name__ == "__main__":
    unittest.main()
