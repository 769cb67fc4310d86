"""lastingshares.rooms: share rows, rooms of sets and lots, level lots."""

import unittest

from lastingshares.chains import Chain
from lastingshares.errors import BadRow, BadSet
from lastingshares.notes import Notes
from lastingshares.rooms import least_room, level_lots, room, room_row, rooms, share_row, tight_lots
from support import (NOTES, all_lots, check_error, check_new_list, check_sets_named, check_shares_named,
                     complete, share_rows_for, slow_room)

EXAMPLE = Notes([[0, 2, 0], [1, 0, 1], [4, 0, 0]], [[0, 2, 0], [1, 0, 5], [4, 0, 0]])
GREAT = Notes(Chain.around([1] * 8).rows, [[0 if x == y else 10 ** 12 - 9 * x - y for y in range(8)] for x in range(8)])


def slow_rooms(notes, row):
    return sorted((tuple(lot), slow_room(notes, row, lot)) for lot in all_lots(notes.size))


class ShareRows(unittest.TestCase):
    def test_rows(self):
        for row in ([1, 1], (3, 1, 2), [10 ** 6] * 8, [1]):
            kept = list(row)
            self.assertEqual(share_row(len(row), row), tuple(row))
            self.assertEqual((type(share_row(len(row), row)), list(row)), (tuple, kept))

    def test_errors(self):
        check_shares_named(self, lambda row: share_row(3, row))
        check_error(self, BadRow(-1), share_row, 2, [1, 1, 1])
        check_error(self, BadRow(1), share_row, 3, [2, 0, True])


class Rooms(unittest.TestCase):
    def test_each_set(self):
        for notes in NOTES:
            for row in share_rows_for(notes):
                for lot in all_lots(notes.size)[::2] + [[], list(range(notes.size))]:
                    kept = list(lot)
                    self.assertEqual(room(notes, row, lot), slow_room(notes, row, lot))
                    self.assertEqual(room(notes, list(row), tuple(lot[::-1])), slow_room(notes, row, lot))
                    self.assertEqual(lot, kept)
                self.assertEqual([room(notes, row, states) for states in ((), tuple(range(notes.size)))], [0, 0])

    def test_all_lots(self):
        seen = set()
        for notes in NOTES:
            for row in share_rows_for(notes):
                expected = slow_rooms(notes, row)
                found = rooms(notes, row)
                self.assertEqual(found, expected)
                self.assertEqual({(type(entry), type(entry[0])) for entry in found}, {(tuple, tuple)})
                least = min(number for _, number in expected)
                self.assertEqual(least_room(notes, list(row)),
                                 (least, min(lot for lot, number in expected if number == least)))
                tight = [lot for lot, number in expected if number == 0]
                self.assertEqual(tight_lots(notes, row), tight)
                seen |= {len(tight) > 0, "below" if least < 0 else "not below"}
        self.assertEqual(seen, {True, False, "below", "not below"})

    def test_rows_of_rooms(self):
        for notes in NOTES:
            rows = share_rows_for(notes)
            for lot in all_lots(notes.size):
                kept = list(lot)
                factors = room_row(notes, lot)
                self.assertEqual((type(factors), lot), (tuple, kept))
                self.assertEqual(factors, room_row(notes, tuple(lot[::-1])))
                for x, factor in enumerate(factors):
                    # The entry of a state is what one more of its share adds.
                    unit = [1 if y == x else 0 for y in range(notes.size)]
                    self.assertEqual(factor, slow_room(notes, unit, lot))
                self.assertEqual(sum(f * p for f, p in zip(factors, rows[0])), slow_room(notes, rows[0], lot))

    def test_edges(self):
        self.assertEqual(rooms(EXAMPLE, [2, 1, 1]),
                         [((0,), 1), ((0, 1), 3), ((0, 2), 2), ((1,), 2), ((1, 2), -1), ((2,), 1)])
        self.assertEqual(least_room(EXAMPLE, [2, 1, 1]), (-1, (1, 2)))
        self.assertEqual((least_room(EXAMPLE, [8, 4, 3]), tight_lots(EXAMPLE, (8, 4, 3))), ((0, (0,)), [(0,), (1, 2)]))
        self.assertEqual([room_row(EXAMPLE, lot) for lot in ([0], [2, 1], (0, 1))],
                         [(-2, 1, 4), (2, -1, -4), (0, -1, 4)])
        two = Notes([[0, 1], [1, 0]], [[0, 4], [3, 0]])
        self.assertEqual(rooms(two, [1, 2]), [((0,), 5), ((1,), 2)])
        # All rooms of two states are 0 for the row of a world that is the only one.
        self.assertEqual(tight_lots(Notes.of_world(complete(2)), [5, 5]), [(0,), (1,)])
        self.assertEqual(tight_lots(Notes.of_world(complete(2)), [5, 4]), [])
        self.assertEqual(least_room(Notes.of_world(complete(2)), [5, 4]), (-1, (0,)))

    def test_eight_states_with_all_pairs_unseen(self):
        row = [10 ** 6, 1, 3, 999999, 7, 7, 12, 1]
        found = rooms(GREAT, row)
        self.assertEqual((len(found), found), (254, slow_rooms(GREAT, row)))
        self.assertEqual(least_room(GREAT, row), min((number, lot) for lot, number in found))
        seen = Notes.of_world(complete(8))
        self.assertEqual(len(tight_lots(seen, [3] * 8)), 254)

    def test_lists_are_new(self):
        check_new_list(self, rooms, EXAMPLE, [2, 1, 1])
        check_new_list(self, tight_lots, EXAMPLE, [8, 4, 3])
        check_new_list(self, level_lots, [1, 2, 3])

    def test_errors(self):
        for call in (rooms, least_room, tight_lots):
            check_shares_named(self, lambda row, call=call: call(EXAMPLE, row))
        for states in ([0], None, [5]):
            check_shares_named(self, lambda row, states=states: room(EXAMPLE, row, states))
        check_sets_named(self, lambda states: room(EXAMPLE, [1, 2, 3], states), least=0)
        check_sets_named(self, lambda lot: room_row(EXAMPLE, lot), least=1)
        check_error(self, BadSet(-2), room_row, EXAMPLE, [2, 0, 1])
        check_error(self, BadSet(2), room_row, EXAMPLE, [2, 0, 3])


class LevelLots(unittest.TestCase):
    def test_against_each_integer_between(self):
        rows = [[0, 1], [5, 5], [4, -1, 4, 2], [-3, -7, -3], [0, 2, -2, 0, 9], [1, 2, 3, 4, 5, 6, 7, 8], [7] * 8,
                [-9, 0, -9, 0, -4, 3, -4, 3]]
        for row in rows:
            lots = [tuple(x for x, height in enumerate(row) if height >= t) for t in range(max(row), min(row), -1)]
            expected = [(lot, lots.count(lot)) for lot in dict.fromkeys(lots)]
            kept = list(row)
            self.assertEqual(level_lots(row), expected)
            self.assertEqual(level_lots(tuple(row)), expected)
            self.assertEqual(row, kept)

    def test_edges(self):
        self.assertEqual(level_lots([4, -1, 4, 2]), [((0, 2), 2), ((0, 2, 3), 3)])
        self.assertEqual((level_lots([0, 0]), level_lots([-7] * 8)), ([], []))
        self.assertEqual(level_lots([10 ** 40, -10 ** 40]), [((0,), 2 * 10 ** 40)])

    def test_errors(self):
        for thing in (None, 3, "012", {0: 1, 1: 1}, range(3), [], [1], (5,), [1] * 9, [True] * 9, ["x"]):
            check_error(self, BadRow(-1), level_lots, thing)
        check_error(self, BadRow(0), level_lots, [None, True])
        for thing in (True, False, None, "1", (1,), 1.0):
            check_error(self, BadRow(0), level_lots, [thing, 1, thing])
            check_error(self, BadRow(7), level_lots, (1, 2, 3, 4, 5, 6, 7, thing))


if __name__ == "__main__":
    unittest.main()
