"""lastingshares.watched: watched tables, states left out, places, the time in a set."""

import unittest

from lastingshares.chains import Chain
from lastingshares.errors import BadNumber, BadSet, BadState
from lastingshares.tables import Table
from lastingshares.watched import left_out, places_in, time_in, watched
from support import (CHAINS, MIXED, all_lots, check_error, check_sets_named, check_states_named, complete, empty,
                     slow_sum)

CHAIN = Chain([[0, 2, 0], [1, 0, 1], [3, 0, 0]])
SINK = Table([[0, 2, 3], [1, 0, 4], [0, 0, 0]])
TABLES = MIXED[::2] + CHAINS[::5]


def watched_sets(size):
    return [states for states in all_lots(size) + [list(range(size))] if len(states) >= 2]


def slow_watched(table, states):
    """The rows of point 136."""
    seen = sorted(states)
    return tuple(tuple(0 if i == j else sum(table.rows[i][z] * slow_sum(table, seen, [(z, j)])
                                            for z in range(table.size)) for j in seen) for i in seen)


class Watched(unittest.TestCase):
    def test_against_forests(self):
        for table in TABLES:
            for states in watched_sets(table.size):
                kept = list(states)
                found = watched(table, states[::-1])
                self.assertEqual((type(found), found.rows), (type(table), slow_watched(table, states)))
                self.assertEqual(watched(table, tuple(states)), found)
                self.assertEqual(states, kept)

    def test_edges(self):
        self.assertEqual(watched(CHAIN, [2, 0]).rows, ((0, 2), (6, 0)))
        for table in (CHAIN, SINK, empty(2), empty(8), complete(8)):
            found = watched(table, list(range(table.size)))
            self.assertEqual((type(found), found), (type(table), table))
        # From the sink nothing comes to 0 and 1, so nothing is seen at all.
        self.assertEqual((type(watched(SINK, [0, 1])), watched(SINK, [0, 1])), (Table, empty(2)))
        self.assertEqual(watched(SINK, [0, 2]).rows, ((0, 3 * 5 + 2 * 4), (0, 0)))
        great = complete(8) * 10 ** 12
        found = watched(great, (6, 3))
        # Each of the 6 other states is left out in turn; what they pass on goes to both watched states alike.
        self.assertEqual((type(found), found.rows[0][1], found.rows[1][0]), (Chain,) + (4 * 2 * 8 ** 5 * 10 ** 84,) * 2)

    def test_errors(self):
        for table in (CHAIN, SINK):
            check_sets_named(self, lambda states, table=table: watched(table, states), least=2)
            for states in ([0], (2,)):
                check_error(self, BadSet(-2), watched, table, states)


class LeftOut(unittest.TestCase):
    def test_each_state(self):
        for table in TABLES:
            if table.size == 2:
                continue
            for z in range(table.size):
                others = [x for x in range(table.size) if x != z]
                rows = tuple(tuple(0 if x == y else table.rows[x][y] * sum(table.rows[z])
                                   + table.rows[x][z] * table.rows[z][y] for y in others) for x in others)
                found = left_out(table, z)
                self.assertEqual((type(found), found.rows), (type(table), rows))

    def test_edges(self):
        self.assertEqual(left_out(CHAIN, 1).rows, ((0, 2), (6, 0)))
        self.assertEqual((left_out(SINK, 2), left_out(empty(8), 5)), (empty(2), empty(7)))
        self.assertEqual(left_out(complete(8), 0), complete(7) * 8)

    def test_errors(self):
        for table in (CHAIN, SINK):
            check_states_named(self, left_out, table, (0,))
        for table in (complete(2), empty(2)):
            for z in (0, 1):
                check_error(self, BadNumber("size"), left_out, table, z)
            check_states_named(self, left_out, table, (0,))


class Places(unittest.TestCase):
    def test_places(self):
        for size in (2, 3, 5):
            for states in watched_sets(size) + [[0], []]:
                for given in (states, states[::-1], tuple(states), states[1:] + states[:1]):
                    for x in range(size):
                        expected = sorted(states).index(x) if x in states else None
                        self.assertEqual(places_in(given, x), expected)
        self.assertEqual((places_in([2, 0], 2), places_in([2, 0], 1), places_in((7, 3, 5, 1), 7)), (1, None, 3))


class Times(unittest.TestCase):
    def test_against_forests(self):
        for table in TABLES[::2]:
            for states in watched_sets(table.size):
                for c in states:
                    for x in range(table.size):
                        expected = sum(slow_sum(table, [c, z], [(x, z)]) for z in states if z != c)
                        self.assertEqual(time_in(table, states[::-1], x, c), expected)

    def test_edges(self):
        # Watched in all states, it is the long itself; from c on it is 0.
        self.assertEqual([time_in(CHAIN, (0, 1, 2), x, 0) for x in range(3)], [0, 4, 2])
        self.assertEqual([time_in(CHAIN, [2, 0], x, 0) for x in range(3)], [0, 1, 2])
        self.assertEqual([time_in(complete(8), (7, 0), x, 7) for x in (7, 0, 3)], [0, 2 * 8 ** 5, 8 ** 5])
        self.assertEqual(time_in(SINK, [0, 2], 0, 2), 5)

    def test_errors(self):
        for table in (CHAIN, SINK):
            for x, c in ((0, 1), (5, True)):
                check_sets_named(self, lambda states, table=table: time_in(table, states, x, c), least=2)
                check_error(self, BadSet(-2), time_in, table, [1], x, c)
            check_states_named(self, time_in, table, ((0, 1), 0, 1), at=(1, 2))
            for states in ([0, 1], (1, 0)):
                check_error(self, BadSet(-3), time_in, table, states, 0, 2)
                check_error(self, BadSet(-3), time_in, table, states, 2, 2)
            check_error(self, BadState(0), time_in, table, (0, 1), 3, 2)
            check_error(self, BadState(1), time_in, table, (0, 1), 2, 3)


if __name__ == "__main__":
    unittest.main()
