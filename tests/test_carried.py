"""lastingshares.carried: currents, and what each ring carries."""

import unittest

from lastingshares.carried import current, current_rows, ring_parts, ring_sums
from lastingshares.chains import Chain
from lastingshares.errors import NotArrow, TooMany
from lastingshares.tables import Table
from support import (MIXED, check_error, check_new_list, check_states_named, complete, empty, ring_arrows,
                     slow_rings, slow_sum)

CHAIN = Chain([[0, 2, 0], [1, 0, 3], [4, 0, 0]])


def slow_ring_sums(table):
    found = []
    for ring in slow_rings(table):
        weight = 1
        for x, y in ring_arrows(ring):
            weight *= table.rows[x][y]
        found.append((ring, weight * slow_sum(table, ring)))
    return found


class Currents(unittest.TestCase):
    def test_each_pair(self):
        for table in MIXED:
            rows = current_rows(table)
            self.assertEqual((type(rows), {type(row) for row in rows}), (tuple, {tuple}))
            self.assertEqual((len(rows), {len(row) for row in rows}), (table.size, {table.size}))
            self.assertEqual([rows[x][x] for x in range(table.size)], [0] * table.size)
            for x, y in table.pairs_of(table.size):
                self.assertEqual(current(table, x, y), slow_sum(table, [x]) * table[x, y])
                self.assertEqual(rows[x][y], current(table, x, y))

    def test_eight_states(self):
        self.assertEqual(current(complete(8) * 2, 3, 5), 8 ** 6 * 2 ** 8)
        self.assertEqual(current_rows(empty(8)), ((0,) * 8,) * 8)
        rows = current_rows(complete(8))
        self.assertEqual(rows, tuple(tuple(8 ** 6 if x != y else 0 for y in range(8)) for x in range(8)))

    def test_a_pair_that_is_no_arrow(self):
        self.assertEqual((current(CHAIN, 0, 2), current(empty(2), 1, 0)), (0, 0))

    def test_errors(self):
        check_states_named(self, current, CHAIN, (0, 1), same=((0, 1),))


class RingSums(unittest.TestCase):
    def test_each_ring(self):
        for table in MIXED:
            self.assertEqual(ring_sums(table), slow_ring_sums(table))

    def test_edges(self):
        self.assertEqual((ring_sums(empty(8)), ring_sums(empty(2))), ([], []))
        self.assertEqual(ring_sums(Table([[0, 2], [3, 0]])), [((0, 1), 6)])
        self.assertEqual(ring_sums(Chain.around([1, 2, 3, 4, 5, 6, 7, 8])), [((0, 1, 2, 3, 4, 5, 6, 7), 40320)])
        check_error(self, TooMany(2000), ring_sums, complete(8))
        self.assertEqual(len(ring_sums(complete(6))), 409)

    def test_limit(self):
        # All pairs among 0 .. 6 make 2365 rings; 7 is in no ring.
        wide = Table([[1 if x != y and max(x, y) < 7 else 0 for y in range(8)] for x in range(8)])
        check_error(self, TooMany(2000), ring_sums, wide)
        fewer = wide
        for pair in ((6, 5), (6, 4)):
            fewer = fewer.with_rate(*pair, 0)
        self.assertLessEqual(len(ring_sums(fewer)), 2000)

    def test_the_list_is_new(self):
        check_new_list(self, ring_sums, CHAIN)


class RingParts(unittest.TestCase):
    def test_each_arrow(self):
        for table in MIXED:
            found = slow_ring_sums(table)
            for x, y in table.pairs_of(table.size):
                if (x, y) in table:
                    expected = [(ring, part) for ring, part in found if (x, y) in ring_arrows(ring)]
                    self.assertEqual(ring_parts(table, x, y), expected)
                    self.assertEqual(sum(part for _, part in expected), current(table, x, y))
                else:
                    check_error(self, NotArrow(x, y), ring_parts, table, x, y)

    def test_eight_states_have_no_limit(self):
        found = ring_parts(complete(8), 6, 2)
        self.assertEqual((len(found), found == sorted(found)), (1957, True))
        self.assertEqual(sum(part for _, part in found), 8 ** 6)

    def test_an_arrow_without_rings(self):
        self.assertEqual(ring_parts(Table([[0, 1], [0, 0]]), 0, 1), [])

    def test_the_list_is_new(self):
        check_new_list(self, ring_parts, CHAIN, 0, 1)

    def test_errors(self):
        check_states_named(self, ring_parts, CHAIN, (0, 1), same=((0, 1),))
        check_states_named(self, ring_parts, empty(3), (0, 1), same=((0, 1),))


if __name__ == "__main__":
    unittest.main()
