"""lastingshares.walks: walks, shortest walks past a set, gates."""

import unittest

from lastingshares.chains import Chain
from lastingshares.errors import BadSet, BadState
from lastingshares.tables import Table
from lastingshares.walks import gates, has_walk, is_gate, shortest_walk, walks, walks_along
from support import TABLES, check_error, check_new_list, complete, empty, slow_walks

NO_STATES = [True, False, -1, 3, None, "0", (0,)]


def past(table, x, y, barred):
    return [walk for walk in slow_walks(table, x, y) if not set(walk) & set(barred)]


class Walks(unittest.TestCase):
    def test_all_walks_ascending(self):
        for table in TABLES:
            for x in range(table.size):
                for y in range(table.size):
                    expected = slow_walks(table, x, y)
                    self.assertEqual(walks(table, x, y), expected)
                    self.assertEqual(list(walks_along(table, x, y)), expected)

    def test_same_state(self):
        for table in (empty(2), complete(2), empty(8), complete(8)):
            self.assertEqual(walks(table, 1, 1), [(1,)])
            self.assertEqual((shortest_walk(table, 1, 1), gates(table, 1, 1)), ((1,), (1,)))
            self.assertIs(has_walk(table, 1, 1), True)

    def test_all_arrows_of_eight_states(self):
        found = walks(complete(8), 0, 7)
        self.assertEqual((len(found), found[0], found[-1]), (1957, (0, 1, 2, 3, 4, 5, 6, 7), (0, 7)))
        self.assertEqual(found, sorted(found))
        self.assertEqual(next(walks_along(complete(8), 3, 0)), (3, 0))

    def test_no_walks(self):
        self.assertEqual((walks(empty(8), 0, 1), walks(Table([[0, 1], [0, 0]]), 1, 0)), ([], []))

    def test_the_list_is_new(self):
        check_new_list(self, walks, complete(3), 0, 1)

    def test_errors(self):
        for thing in NO_STATES:
            check_error(self, BadState(0), walks, complete(3), thing, thing)
            check_error(self, BadState(1), walks, complete(3), 0, thing)
        found = walks_along(complete(3), 3, True)
        check_error(self, BadState(0), next, found)
        check_error(self, BadState(1), list, walks_along(complete(3), 0, True))


class Shortest(unittest.TestCase):
    def test_past_all_sets(self):
        for table in TABLES[::3]:
            for x in range(table.size):
                for y in range(table.size):
                    for mask in range(2 ** table.size):
                        barred = [z for z in reversed(range(table.size)) if mask >> z & 1]
                        found = past(table, x, y, barred)
                        best = min(found, key=lambda walk: (len(walk), walk), default=None)
                        self.assertIs(has_walk(table, x, y, without=barred), bool(found))
                        self.assertEqual(shortest_walk(table, x, y, without=tuple(barred)), best)

    def test_least_of_several(self):
        chain = Chain.of_arrows(5, [(0, 3), (0, 2), (2, 4), (3, 4), (3, 1), (1, 4), (4, 0)])
        self.assertEqual(shortest_walk(chain, 0, 4), (0, 2, 4))
        self.assertEqual(shortest_walk(chain, 0, 4, without=[2]), (0, 3, 4))
        self.assertIs(type(shortest_walk(chain, 0, 4)), tuple)

    def test_states_in_the_set(self):
        for barred in ([0], (1,), [1, 0]):
            self.assertIs(has_walk(complete(3), 0, 1, without=barred), False)
            self.assertIsNone(shortest_walk(complete(3), 0, 1, without=barred))
        self.assertIs(has_walk(complete(3), 0, 0, without=[0]), False)
        self.assertIsNone(shortest_walk(complete(3), 0, 0, without=[0]))
        self.assertIs(has_walk(complete(3), 0, 1, without=[]), True)

    def test_the_set_stays(self):
        barred = [2, 1]
        has_walk(complete(4), 0, 3, without=barred)
        shortest_walk(complete(4), 0, 3, without=barred)
        self.assertEqual(barred, [2, 1])

    def test_eight_states(self):
        self.assertEqual(shortest_walk(complete(8), 7, 2), (7, 2))
        ring = Chain.around([1] * 8)
        self.assertEqual(shortest_walk(ring, 3, 2), (3, 4, 5, 6, 7, 0, 1, 2))
        self.assertIs(has_walk(ring, 3, 2, without=[6]), False)
        self.assertIs(has_walk(empty(8), 0, 7), False)
        self.assertIsNone(shortest_walk(empty(8), 0, 7))

    def test_errors(self):
        for call in (has_walk, shortest_walk):
            for thing in NO_STATES:
                check_error(self, BadState(0), call, complete(3), thing, thing, without=None)
                check_error(self, BadState(1), call, complete(3), 0, thing, without=[9])
            for thing in (None, 1, "12", {1}, range(1)):
                check_error(self, BadSet(-1), call, complete(3), 0, 1, without=thing)
            check_error(self, BadSet(0), call, complete(3), 0, 1, without=[True])
            check_error(self, BadSet(1), call, complete(3), 0, 1, without=[2, 3])
            check_error(self, BadSet(1), call, complete(3), 0, 1, without=(2, 2, 7))
            check_error(self, BadSet(1), call, complete(3), 0, 1, without=(1, -1))


class Gates(unittest.TestCase):
    def test_gates_and_their_order(self):
        for table in TABLES:
            for x in range(table.size):
                for y in range(table.size):
                    found = slow_walks(table, x, y)
                    met = [b for b in range(table.size) if all(b in walk for walk in found)]
                    self.assertEqual([b for b in range(table.size) if is_gate(table, x, b, y)], met)
                    if not found:
                        self.assertIsNone(gates(table, x, y))
                    for walk in found:
                        self.assertEqual(gates(table, x, y), tuple(b for b in walk if b in met))

    def test_no_walk(self):
        self.assertIsNone(gates(empty(3), 0, 2))
        for b in range(3):
            self.assertIs(is_gate(empty(3), 0, b, 2), True)

    def test_order_of_the_walk(self):
        chain = Chain.of_arrows(5, [(0, 4), (4, 1), (4, 3), (1, 2), (3, 2), (2, 0)])
        self.assertEqual(gates(chain, 0, 2), (0, 4, 2))
        self.assertEqual(gates(chain, 1, 3), (1, 2, 0, 4, 3))
        self.assertIs(is_gate(chain, 0, 3, 2), False)
        self.assertIs(is_gate(chain, 0, 4, 2), True)

    def test_eight_states(self):
        self.assertEqual(gates(complete(8), 6, 1), (6, 1))
        self.assertEqual(gates(Chain.around([1] * 8), 5, 4), (5, 6, 7, 0, 1, 2, 3, 4))
        self.assertIsNone(gates(empty(8), 5, 4))

    def test_errors(self):
        for thing in NO_STATES:
            check_error(self, BadState(0), gates, complete(3), thing, thing)
            check_error(self, BadState(1), gates, complete(3), 0, thing)
            check_error(self, BadState(0), is_gate, complete(3), thing, thing, thing)
            check_error(self, BadState(1), is_gate, complete(3), 0, thing, thing)
            check_error(self, BadState(2), is_gate, complete(3), 0, 1, thing)


if __name__ == "__main__":
    unittest.main()
