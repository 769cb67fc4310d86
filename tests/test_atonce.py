"""lastingshares.atonce: soonest, latest and likeliest worlds."""

import unittest
from fractions import Fraction

from lastingshares.atonce import is_likeliest, is_soonest, latest, likeliest, soonest
from lastingshares.chains import Chain
from lastingshares.comings import chance_row
from lastingshares.errors import BadState, NotAgreeing, OtherSize
from lastingshares.longs import time_row
from lastingshares.notes import Notes
from lastingshares.tables import Table
from support import NOTES, check_states_named, check_worlds_named, complete, slow_long, slow_row, slow_sum, slow_worlds

EXAMPLE = Notes([[0, 2, 0], [1, 0, 1], [4, 0, 0]], [[0, 2, 0], [1, 0, 5], [4, 0, 0]])
WIDE = Notes([[0, 2, 0], [1, 0, 1], [4, 0, 0]], [[0, 2, 3], [1, 0, 5], [4, 1, 0]])
GREAT = Notes(Chain.around([1] * 8).rows, [[0 if x == y else 10 ** 12 - 9 * x - y for y in range(8)] for x in range(8)])
FEW = NOTES[:2] + NOTES[2::2]


def slow_times(world, c):
    return tuple(Fraction(slow_long(world, x, c), slow_sum(world, [c])) for x in range(world.size))


def slow_chances(world, c, e):
    return tuple(Fraction(number, slow_sum(world, [c, e])) for number in slow_row(world, [c, e], c))


def ends_of_rows(rows):
    """The least and the greatest number at each state."""
    return (tuple(map(min, zip(*rows))), tuple(map(max, zip(*rows))))


class Worlds(unittest.TestCase):
    def check_world(self, notes, world, row, expected):
        self.assertIs(type(world), Chain)
        self.assertTrue(notes.agrees(world))
        self.assertEqual(row, expected)

    def test_soonest_and_latest_from_every_state(self):
        for notes in FEW:
            found = slow_worlds(notes)
            for c in range(notes.size):
                rows = {world.rows: slow_times(world, c) for world in found}
                low, high = ends_of_rows(rows.values())
                for call, expected in ((soonest, low), (latest, high)):
                    world = call(notes, c)
                    self.check_world(notes, world, rows.get(world.rows), expected)
                for world in found[::2]:
                    self.assertIs(is_soonest(notes, world, c), rows[world.rows] == low)
                self.assertIs(is_soonest(notes, Table(found[-1].rows), c), rows[found[-1].rows] == low)

    def test_likeliest_from_every_state(self):
        for notes in FEW:
            found = slow_worlds(notes)
            for c, e in notes.lows.pairs_of(notes.size)[::1 if notes.size < 5 else 3]:
                rows = {world.rows: slow_chances(world, c, e) for world in found}
                _, high = ends_of_rows(rows.values())
                world = likeliest(notes, c, e)
                self.check_world(notes, world, rows.get(world.rows), high)
                for world in found[::2]:
                    self.assertIs(is_likeliest(notes, world, c, e), rows[world.rows] == high)
                self.assertIs(is_likeliest(notes, Table(found[-1].rows), c, e), rows[found[-1].rows] == high)

    def test_pairs_out_of_the_ends_do_not_matter(self):
        # 12 is the only unseen pair, and it leads out of 1.
        for rate in range(1, 6):
            world = EXAMPLE.lows.with_rate(1, 2, rate)
            self.assertIs(is_soonest(EXAMPLE, world, 1), True)
            self.assertIs(is_soonest(EXAMPLE, world, 2), rate == 5)
            self.assertIs(is_soonest(EXAMPLE, world, 0), rate == 5)
            self.assertIs(is_likeliest(EXAMPLE, world, 1, 0), True)
            self.assertIs(is_likeliest(EXAMPLE, world, 2, 1), True)
            self.assertIs(is_likeliest(EXAMPLE, world, 2, 0), rate == 5)
            self.assertIs(is_likeliest(EXAMPLE, world, 0, 2), rate == 1)
        for c in (0, 2):
            self.assertEqual((soonest(EXAMPLE, c), latest(EXAMPLE, c)), (EXAMPLE.highs, EXAMPLE.lows))
        self.assertEqual((likeliest(EXAMPLE, 2, 0), likeliest(EXAMPLE, 0, 2)), (EXAMPLE.highs, EXAMPLE.lows))

    def test_seen_pairs_alone(self):
        for chain in (complete(2), complete(8), EXAMPLE.lows):
            notes = Notes.of_world(chain)
            self.assertEqual((soonest(notes, 1), latest(notes, 0), likeliest(notes, 1, 0)), (chain, chain, chain))
            self.assertTrue(is_soonest(notes, chain, 0) and is_likeliest(notes, chain, 0, 1))

    def test_eight_states_with_all_pairs_unseen(self):
        tried = [GREAT.lows, GREAT.highs, GREAT.world(GREAT.unseen()[::3]), GREAT.world(GREAT.unseen()[1::4])]
        for c in (0, 5):
            quick, slow = soonest(GREAT, c), latest(GREAT, c)
            self.assertTrue(GREAT.agrees(quick) and GREAT.agrees(slow))
            self.assertTrue(is_soonest(GREAT, quick, c))
            for world in tried + [slow]:
                self.assertFalse(is_soonest(GREAT, world, c))
                for low, number, high in zip(*[time_row(one, c) for one in (quick, world, slow)]):
                    self.assertTrue(Fraction(*low) <= Fraction(*number) <= Fraction(*high))
        likely = likeliest(GREAT, 6, 1)
        self.assertTrue(is_likeliest(GREAT, likely, 6, 1))
        for world in tried:
            self.assertFalse(is_likeliest(GREAT, world, 6, 1))
            for number, high in zip(chance_row(world, 6, 1), chance_row(likely, 6, 1)):
                self.assertLessEqual(Fraction(*number), Fraction(*high))


class Errors(unittest.TestCase):
    def test_states(self):
        for call in (soonest, latest):
            check_states_named(self, lambda table, *args, call=call: call(EXAMPLE, *args), EXAMPLE.lows, (0,))
        check_states_named(self, lambda table, *args: likeliest(EXAMPLE, *args), EXAMPLE.lows, (0, 1), same=((0, 1),))
        for world in (EXAMPLE.lows, complete(3), complete(5)):
            check_states_named(self, lambda table, *args: is_soonest(EXAMPLE, *args), EXAMPLE.lows, (world, 0), at=(1,))
            check_states_named(self, lambda table, *args: is_likeliest(EXAMPLE, *args), EXAMPLE.lows, (world, 0, 1),
                               same=((0, 1),), at=(1, 2))

    def test_worlds(self):
        for notes in (EXAMPLE, WIDE):
            for c in range(3):
                check_worlds_named(self, lambda world: is_soonest(notes, world, c), notes)
                check_worlds_named(self, lambda world: is_likeliest(notes, world, c, (c + 1) % 3), notes)

    def test_order(self):
        with self.assertRaises(BadState):
            is_soonest(EXAMPLE, complete(2), 3)
        with self.assertRaises(OtherSize):
            is_soonest(EXAMPLE, complete(2), 2)
        with self.assertRaises(NotAgreeing):
            is_likeliest(EXAMPLE, complete(3), 2, 1)


if __name__ == "__main__":
    unittest.main()
