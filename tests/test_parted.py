"""lastingshares.parted: parted walks and separating states."""

import unittest
from itertools import product

from lastingshares.chains import Chain
from lastingshares.errors import BadState, SameState
from lastingshares.parted import parted_walks, separating
from support import SMALL, TABLES, check_error, complete, empty, slow_parted, slow_walks

NO_STATES = [True, False, -1, 4, None, "0", (0,)]


class Parted(unittest.TestCase):
    def test_least_pairs_for_all_states(self):
        for table in SMALL[::2] + TABLES[68::5]:
            for x, y, z, u in product(range(table.size), repeat=4):
                self.assertEqual(parted_walks(table, x, y, z, u), slow_parted(table, x, y, z, u))

    def test_the_first_walk_is_as_short_as_possible(self):
        chain = Chain.of_arrows(6, [(0, 4), (4, 1), (0, 5), (5, 1), (0, 3), (3, 4), (2, 4), (4, 3), (1, 2), (3, 0)])
        self.assertEqual(parted_walks(chain, 0, 1, 2, 3), ((0, 5, 1), (2, 4, 3)))
        self.assertEqual(parted_walks(chain, 0, 1, 2, 4), ((0, 5, 1), (2, 4)))

    def test_equal_states(self):
        chain = complete(4)
        self.assertEqual(parted_walks(chain, 0, 0, 1, 1), ((0,), (1,)))
        self.assertEqual(parted_walks(chain, 0, 0, 1, 3), ((0,), (1, 3)))
        self.assertEqual(parted_walks(chain, 3, 1, 2, 2), ((3, 1), (2,)))
        for states in ((0, 1, 0, 2), (0, 1, 2, 1), (0, 1, 2, 0), (0, 1, 1, 2), (0, 0, 0, 0), (0, 0, 1, 0)):
            self.assertIsNone(parted_walks(chain, *states))
        self.assertEqual(parted_walks(empty(8), 7, 7, 0, 0), ((7,), (0,)))

    def test_kinds(self):
        found = parted_walks(complete(4), 0, 1, 2, 3)
        self.assertEqual((type(found), type(found[0]), type(found[1])), (tuple, tuple, tuple))

    def test_eight_states(self):
        self.assertEqual(parted_walks(complete(8), 7, 0, 3, 5), ((7, 0), (3, 5)))
        self.assertIsNone(parted_walks(empty(8), 0, 1, 2, 3))
        self.assertIsNone(parted_walks(Chain.around([1] * 8), 0, 4, 2, 6))
        self.assertEqual(parted_walks(Chain.around([1] * 8), 0, 2, 4, 6), ((0, 1, 2), (4, 5, 6)))

    def test_errors(self):
        for thing in NO_STATES:
            for place in range(4):
                states = [0, 1, 2, 3][:place] + [thing] * (4 - place)
                check_error(self, BadState(place), parted_walks, complete(4), *states)


class Separating(unittest.TestCase):
    def test_least_state_in_every_walk(self):
        for table in SMALL + TABLES[68::3]:
            pairs = table.pairs_of(table.size)
            for (a, b), (c, e) in product(pairs, pairs):
                found = [walk for x in (a, b) for y in (c, e) for walk in slow_walks(table, x, y)]
                met = [v for v in range(table.size) if all(v in walk for walk in found)]
                self.assertEqual(separating(table, a, b, c, e), met[0] if met else None)

    def test_eight_states(self):
        self.assertIsNone(separating(complete(8), 0, 1, 2, 3))
        self.assertIsNone(separating(complete(8), 0, 1, 1, 0))
        self.assertEqual(separating(empty(8), 0, 1, 2, 3), 0)
        self.assertEqual(separating(Chain.around([1] * 8), 0, 1, 2, 3), 1)

    def test_errors(self):
        for thing in NO_STATES:
            check_error(self, BadState(0), separating, complete(4), thing, thing, thing, thing)
            check_error(self, BadState(1), separating, complete(4), 0, thing, 2, 2)
            check_error(self, BadState(2), separating, complete(4), 0, 0, thing, 2)
            check_error(self, BadState(3), separating, complete(4), 0, 0, 2, thing)
        check_error(self, SameState(0, 1), separating, complete(4), 0, 0, 2, 3)
        check_error(self, SameState(0, 1), separating, complete(4), 0, 0, 2, 2)
        check_error(self, SameState(2, 3), separating, complete(4), 0, 2, 2, 2)


if __name__ == "__main__":
    unittest.main()
