"""lastingshares.between: scaled worlds for all fractions, and the chains from one chain to another one."""

import unittest
from fractions import Fraction

from lastingshares.aims import Cost, Mean, Ratio
from lastingshares.between import towards, world_at
from lastingshares.chains import Chain
from lastingshares.errors import NotJoined, OtherSize
from lastingshares.notes import Notes
from lastingshares.tables import Table
from support import (CHAINS, NOTES, aims_for, check_aims_named, check_error, check_new_list, check_numbers_named,
                     complete, is_scaled_world, slow_pair, slow_trees_of, slow_worlds)

EXAMPLE = Notes([[0, 2, 0], [1, 0, 1], [4, 0, 0]], [[0, 2, 0], [1, 0, 5], [4, 0, 0]])
GREAT = Notes(Chain.around([1] * 8).rows, [[0 if x == y else 10 ** 12 - 9 * x - y for y in range(8)] for x in range(8)])


def scaled_fraction(aim, scaled):
    """The fraction of point 92."""
    scale, table = scaled
    if not isinstance(aim, Cost):
        return Fraction(*slow_pair(aim, table))
    sums = slow_trees_of(table)
    u = scale * sum(entry * number for entry, number in zip(aim.row, sums))
    u += sum(aim.costs[x][y] * sums[x] * table.rows[x][y] for x, y in table.pairs_of(table.size))
    return Fraction(u, scale * sum(sums))


class Fractions(unittest.TestCase):
    def test_between_the_ends_and_beyond(self):
        for notes in NOTES[:2] + NOTES[2::5]:
            for aim in aims_for(notes.size):
                numbers = sorted({Fraction(*slow_pair(aim, world)) for world in slow_worlds(notes)})
                low, high = numbers[0], numbers[-1]
                inner = [low, high, numbers[len(numbers) // 2], low + (high - low) / 3, low + (high - low) * 10 / 11]
                for number in inner:
                    for times in (1, 6):
                        u, v = number.numerator * times, number.denominator * times
                        scaled = world_at(notes, aim, u, v)
                        self.assertTrue(is_scaled_world(notes, scaled))
                        self.assertEqual(scaled_fraction(aim, scaled), number)
                for number in (low - Fraction(1, 10 ** 9), high + Fraction(1, 10 ** 9), low - 7, high + 7):
                    self.assertIsNone(world_at(notes, aim, number.numerator, number.denominator))

    def test_one_fraction_alone(self):
        for notes in (Notes.of_world(complete(2)), Notes.of_world(complete(8)), EXAMPLE, GREAT):
            aim = Mean([-5] * notes.size)
            scale, world = world_at(notes, aim, -10, 2)
            self.assertTrue(is_scaled_world(notes, (scale, world)))
            self.assertIsNone(world_at(notes, aim, -51, 10))
            self.assertIsNone(world_at(notes, aim, -49, 10))

    def test_edges(self):
        aim = Ratio(0, 1)
        for u, v, end in ((1, 1, EXAMPLE.lows), (12, 4, EXAMPLE.highs)):
            scale, world = world_at(EXAMPLE, aim, u, v)
            self.assertEqual(world, end * scale)
        scale, world = world_at(EXAMPLE, aim, 7, 4)
        self.assertEqual(world, Chain([[0, 2 * scale, 0], [scale, 0, scale * 5 // 2], [4 * scale, 0, 0]]))
        for u, v in ((0, 1), (-1, 1), (10 ** 12, 1), (10 ** 12 - 1, 10 ** 12), (3 * 10 ** 12 + 1, 10 ** 12)):
            self.assertIsNone(world_at(EXAMPLE, aim, u, v))

    def test_eight_states_with_all_pairs_unseen(self):
        costs = [[0 if x == y else (x * 11 + y * 7) % 13 - 6 for y in range(8)] for x in range(8)]
        for aim, u, v in ((Ratio(0, 7), 1, 1), (Ratio(2, 3), 10 ** 12, 3), (Mean([3, 1, -4, 1, 5, -9, 2, 6]), -7, 11),
                          (Cost([0] * 8, costs), 0, 5), (Cost([1] * 8, costs), 10 ** 9, 7)):
            scaled = world_at(GREAT, aim, u, v)
            self.assertTrue(is_scaled_world(GREAT, scaled))
            scale, world = scaled
            if isinstance(aim, Cost):
                over, under = Cost([scale * entry for entry in aim.row], costs).pair_in(world)
                under = scale * under
            else:
                over, under = aim.pair_in(world)
            self.assertEqual(over * v, u * under)
        self.assertIsNone(world_at(GREAT, Mean([3, 1, -4, 1, 5, -9, 2, 6]), 6, 1))

    def test_errors(self):
        for u, v in ((1, 1), (True, 0)):
            check_aims_named(self, lambda aim, u=u, v=v: world_at(EXAMPLE, aim, u, v))
        for aim in (Ratio(0, 1), Mean([1, 2, 3]), Cost([1, 2, 3], [[0] * 3] * 3)):
            for v in (1, 0, None):
                check_numbers_named(self, "u", lambda u, v=v, aim=aim: world_at(EXAMPLE, aim, u, v), least=None)
            check_numbers_named(self, "v", lambda v, aim=aim: world_at(EXAMPLE, aim, 1, v), least=1)


class Paths(unittest.TestCase):
    def check_path(self, found, first, second):
        self.assertIs(type(found), list)
        self.assertEqual((found[0], found[-1]), (first, second))
        changed = []
        for one, after in zip(found, found[1:]):
            self.assertEqual((type(one), type(after)), (Chain, Chain))
            pairs = [pair for pair in one.pairs_of(one.size) if one[pair] != after[pair]]
            self.assertEqual([after[pair] for pair in pairs], [second[pair] for pair in pairs])
            self.assertEqual(len(pairs), 1)
            changed += pairs
        self.assertEqual(changed, [pair for pair in first.pairs_of(first.size) if first[pair] != second[pair]])

    def test_worlds_of_the_same_notes(self):
        for notes in NOTES:
            ends = [notes.lows, notes.highs, notes.world(notes.unseen()[::2]), notes.world(notes.unseen()[1::2])]
            for first, second in zip(ends, ends[1:] + ends[:1]):
                found = towards(first, second)
                self.check_path(found, first, second)
                self.assertTrue(all(notes.agrees(one) for one in found))
        self.check_path(towards(GREAT.highs, GREAT.lows), GREAT.highs, GREAT.lows)

    def test_any_two_chains(self):
        seen = set()
        for first, second in zip(CHAINS, CHAINS[1:]):
            if first.size != second.size:
                check_error(self, OtherSize(second.size), towards, first, second)
                continue
            # The first table that is not joined is named, by its own error.
            table, lot = Table(first.rows), None
            for pair in first.pairs_of(first.size):
                table = table.with_rate(*pair, second[pair])
                try:
                    Chain(table.rows)
                except NotJoined as error:
                    lot = error.lot
                    break
            seen.add(lot is None)
            if lot is None:
                self.check_path(towards(first, second), first, second)
            else:
                check_error(self, NotJoined(lot), towards, first, second)
        self.assertEqual(seen, {True, False})

    def test_edges(self):
        for chain in (EXAMPLE.lows, complete(2), complete(8)):
            self.assertEqual(towards(chain, Chain(chain.rows)), [chain])
        self.assertEqual([one.rows for one in towards(complete(2), Chain([[0, 5], [7, 0]]))],
                         [((0, 1), (1, 0)), ((0, 5), (1, 0)), ((0, 5), (7, 0))])
        # 01 is taken away first, and then nothing leads from 0 to 1.
        check_error(self, NotJoined((0,)), towards, EXAMPLE.lows, Chain([[0, 0, 1], [1, 0, 0], [0, 1, 0]]))
        check_error(self, OtherSize(2), towards, complete(3), complete(2))
        check_error(self, OtherSize(3), towards, complete(2), complete(3))

    def test_the_list_is_new(self):
        check_new_list(self, towards, EXAMPLE.lows, EXAMPLE.highs)
        check_new_list(self, towards, EXAMPLE.lows, EXAMPLE.lows)


if __name__ == "__main__":
    unittest.main()
