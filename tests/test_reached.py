"""lastingshares.reached: rows that are reached, lots without room, scaled worlds, the rates of one state."""

import unittest
from fractions import Fraction

from lastingshares.chains import Chain
from lastingshares.errors import BadRow, BadState
from lastingshares.notes import Notes
from lastingshares.reached import is_reached, rates_of_state, short_lot, world_with
from support import (CHAINS, NOTES, all_lots, check_error, check_shares_named, check_states_named, complete,
                     is_balanced_at, is_scaled_world, is_share_row_of, share_rows_for, slow_lowest_row, slow_room,
                     slow_worlds)

EXAMPLE = Notes([[0, 2, 0], [1, 0, 1], [4, 0, 0]], [[0, 2, 0], [1, 0, 5], [4, 0, 0]])
GREAT = Notes(Chain.around([1] * 8).rows, [[0 if x == y else 10 ** 12 - 9 * x - y for y in range(8)] for x in range(8)])
CHAIN = Chain([[0, 2, 0], [1, 0, 3], [4, 0, 0]])


def parts_of(number):
    return (number.numerator, number.denominator)


class Reached(unittest.TestCase):
    def test_a_world_or_a_lot_shows_it(self):
        seen = set()
        for notes in NOTES:
            for row in share_rows_for(notes):
                kept = list(row)
                found, lot, scaled = is_reached(notes, kept), short_lot(notes, kept), world_with(notes, kept)
                self.assertEqual(kept, list(row))
                seen.add(found)
                if found:
                    self.assertIs(found, True)
                    self.assertIsNone(lot)
                    self.assertTrue(is_scaled_world(notes, scaled))
                    self.assertTrue(is_balanced_at(scaled[1], row))
                    self.assertTrue(notes.size == 5 or is_share_row_of(scaled[1], row))
                else:
                    self.assertIs(found, False)
                    self.assertIsNone(scaled)
                    self.assertIn(list(lot), all_lots(notes.size))
                    self.assertEqual((type(lot), lot), (tuple, tuple(sorted(lot))))
                    self.assertLess(slow_room(notes, row, lot), 0)
        self.assertEqual(seen, {True, False})

    def test_rows_of_worlds_and_sums_of_them(self):
        for notes in NOTES[::2]:
            rows = [slow_lowest_row(world) for world in slow_worlds(notes)[::3]]
            for row, other in zip(rows, rows[1:] + rows[:1]):
                for given in (row, [5 * entry for entry in row], [3 * p + q for p, q in zip(row, other)]):
                    self.assertIs(is_reached(notes, given), True)
                    self.assertIsNone(short_lot(notes, given))
                    self.assertTrue(is_balanced_at(world_with(notes, given)[1], given))

    def test_edges(self):
        self.assertEqual((is_reached(EXAMPLE, [2, 1, 1]), short_lot(EXAMPLE, [2, 1, 1])), (False, (1, 2)))
        scale, world = world_with(EXAMPLE, [8, 4, 3])
        self.assertEqual(world, CHAIN * scale)
        two = Notes([[0, 1], [1, 0]], [[0, 4], [3, 0]])
        for row, expected in (([1, 4], True), ([1, 5], False), ([3, 1], True), ([31, 10], False)):
            self.assertIs(is_reached(two, row), expected)
        for row in ([1] * 8, [10 ** 6, 1, 3, 999999, 7, 7, 12, 1]):
            self.assertIs(is_reached(GREAT, row), True)
            scaled = world_with(GREAT, row)
            self.assertTrue(is_scaled_world(GREAT, scaled) and is_balanced_at(scaled[1], row))
        seen = Notes.of_world(complete(8))
        self.assertEqual((is_reached(seen, [9] * 8), is_reached(seen, [9] * 7 + [8])), (True, False))
        self.assertLess(slow_room(seen, [9] * 7 + [8], short_lot(seen, [9] * 7 + [8])), 0)

    def test_errors(self):
        for call in (is_reached, short_lot, world_with):
            check_shares_named(self, lambda row, call=call: call(EXAMPLE, row))


class OneState(unittest.TestCase):
    def slow_rates(self, chain, x, row):
        """The rates of point 118: what each state sends out, less what it gets from the others, comes from x."""
        states = range(chain.size)
        return [Fraction(row[b] * sum(chain.rows[b]) - sum(row[y] * chain.rows[y][b] for y in states if y != x), row[x])
                if b != x else Fraction(0) for b in states]

    def test_each_state(self):
        seen = set()
        for chain in CHAINS[::2]:
            own = slow_lowest_row(chain)
            for x in range(chain.size):
                for row in (own, [2 * entry for entry in own], [1] * chain.size, list(range(1, chain.size + 1)),
                            [1 if y == x else 3 for y in range(chain.size)],
                            [5 if y == x else p for y, p in enumerate(own)]):
                    rates = self.slow_rates(chain, x, row)
                    found = rates_of_state(chain, x, row)
                    seen.add(found is None)
                    if min(rates) < 0:
                        self.assertIsNone(found)
                    else:
                        self.assertEqual((type(found), found), (tuple, tuple(map(parts_of, rates))))
                self.assertEqual(rates_of_state(chain, x, own), tuple((rate, 1) for rate in chain.rows[x]))
        self.assertEqual(seen, {True, False})

    def test_the_chain_with_these_rates_has_the_row(self):
        many = 0
        for chain in CHAINS[::2]:
            for x in range(chain.size):
                for row in ([1] * chain.size, [2, 1, 1, 1, 1][:chain.size], [3, 4, 4, 5, 3][:chain.size]):
                    found = rates_of_state(chain, x, row)
                    if found is not None:
                        times = row[x]
                        rows = [[rate * times for rate in line] for line in chain.rows]
                        rows[x] = [u * times // v for u, v in found]
                        self.assertEqual([u * times % v for u, v in found], [0] * chain.size)
                        self.assertTrue(is_share_row_of(Chain(rows), row))
                        many += 1
        self.assertGreater(many, 50)

    def test_edges(self):
        self.assertEqual(rates_of_state(CHAIN, 1, [8, 4, 3]), ((1, 1), (0, 1), (3, 1)))
        self.assertEqual(rates_of_state(CHAIN, 1, (8, 4, 4)), ((0, 1), (0, 1), (4, 1)))
        self.assertIsNone(rates_of_state(CHAIN, 1, (8, 4, 5)))
        self.assertEqual(rates_of_state(CHAIN, 0, [6, 4, 3]), ((0, 1), (8, 3), (0, 1)))
        self.assertEqual(rates_of_state(complete(2), 1, [10 ** 6, 3]), ((10 ** 6, 3), (0, 1)))
        self.assertEqual(rates_of_state(complete(8), 3, [1] * 8), tuple((int(x != 3), 1) for x in range(8)))

    def test_errors(self):
        check_states_named(self, lambda table, *args: rates_of_state(CHAIN, *args), CHAIN, (0, [1, 1, 1]), at=(0,))
        check_states_named(self, lambda table, *args: rates_of_state(CHAIN, *args), CHAIN, (0, None), at=(0,))
        check_shares_named(self, lambda row: rates_of_state(CHAIN, 2, row))
        check_error(self, BadState(0), rates_of_state, CHAIN, 3, [0])
        check_error(self, BadRow(1), rates_of_state, CHAIN, 0, [1, 0, 0])


if __name__ == "__main__":
    unittest.main()
