"""lastingshares.currents: fitting currents, what fits, their scaled worlds, the currents of a chain."""

import unittest

from lastingshares.chains import Chain
from lastingshares.currents import chain_currents, fitting, is_fitting, scaled_of
from lastingshares.notes import Notes
from lastingshares.trees import lowest_row
from support import (CHAINS, NOTES, all_lots, check_shares_named, complete, currents_number, drawn_notes,
                     is_balanced_at, is_scaled_world, is_share_row_of, share_rows_for, slow_currents, slow_lowest_row,
                     slow_room)

EXAMPLE = Notes([[0, 2, 0], [1, 0, 1], [4, 0, 0]], [[0, 2, 0], [1, 0, 5], [4, 0, 0]])
GREAT = Notes(Chain.around([1] * 8).rows, [[0 if x == y else 10 ** 12 - 9 * x - y for y in range(8)] for x in range(8)])
MOST_TRIES = 3000


def slow_fits(notes, row, lines):
    size = notes.size
    between = all(row[x] * notes.lows.rows[x][y] <= lines[x][y] <= row[x] * notes.highs.rows[x][y]
                  for x in range(size) for y in range(size))
    return between and all(sum(lines[x]) == sum(line[x] for line in lines) for x in range(size))


def each_case(chosen=NOTES):
    for notes in chosen:
        for row in share_rows_for(notes):
            yield notes, row


class Fitting(unittest.TestCase):
    def test_there_are_some_or_some_lot_has_no_room(self):
        seen = set()
        for notes, row in each_case():
            found = fitting(notes, list(row))
            seen.add(found is None)
            if found is None:
                self.assertLess(min(slow_room(notes, row, lot) for lot in all_lots(notes.size)), 0)
            else:
                self.assertEqual((type(found), {type(line) for line in found}), (tuple, {tuple}))
                self.assertTrue(slow_fits(notes, row, found))
                self.assertEqual([found[x][x] for x in range(notes.size)], [0] * notes.size)
        self.assertEqual(seen, {True, False})

    def test_against_all_tries(self):
        many = 0
        for notes, row in each_case():
            if currents_number(notes, row) <= MOST_TRIES:
                found = slow_currents(notes, row)
                self.assertIs(fitting(notes, row) is None, not found)
                self.assertTrue(not found or fitting(notes, row) in found)
                many += 1
        self.assertGreater(many, 50)

    def test_rows_of_worlds(self):
        for notes in NOTES:
            for world in (notes.lows, notes.highs, notes.world(notes.unseen()[1::2])):
                row = slow_lowest_row(world)
                self.assertIsNotNone(fitting(notes, row))
                self.assertIsNotNone(fitting(notes, [7 * entry for entry in row]))

    def test_rows_of_drawn_worlds_and_rows_beside_them(self):
        seen = set()
        for size in (5, 6, 7, 8):
            for place, notes in enumerate(drawn_notes(size, 60, size)):
                row = lowest_row(notes.world(notes.unseen()[place % 3::3]))
                beside = [entry + (x == place % size) for x, entry in enumerate(row)]
                self.assertTrue(slow_fits(notes, row, fitting(notes, row)))
                found = fitting(notes, beside)
                seen.add(found is None)
                if found is None:
                    self.assertLess(min(slow_room(notes, beside, lot) for lot in all_lots(size)), 0)
                else:
                    self.assertTrue(slow_fits(notes, beside, found))
        self.assertEqual(seen, {True, False})

    def test_edges(self):
        self.assertIsNone(fitting(EXAMPLE, [2, 1, 1]))
        self.assertEqual(fitting(EXAMPLE, [8, 4, 3]), ((0, 16, 0), (4, 0, 12), (12, 0, 0)))
        two = Notes([[0, 1], [1, 0]], [[0, 4], [3, 0]])
        self.assertEqual(fitting(two, [3, 4]) is None, False)
        self.assertIsNone(fitting(two, [1, 5]))
        self.assertEqual(fitting(two, [1, 4]), ((0, 4), (4, 0)))
        self.assertEqual(fitting(Notes.of_world(complete(2)), (5, 5)), ((0, 5), (5, 0)))
        self.assertIsNone(fitting(Notes.of_world(complete(2)), (5, 6)))

    def test_eight_states(self):
        for row in ([10 ** 6, 1, 3, 999999, 7, 7, 12, 1], [1] * 8, list(range(1, 9))):
            self.assertTrue(slow_fits(GREAT, row, fitting(GREAT, row)))
        notes = Notes.around(complete(8) * 5, 1, 1)
        self.assertTrue(slow_fits(notes, [2, 2, 3, 2, 2, 3, 2, 2], fitting(notes, [2, 2, 3, 2, 2, 3, 2, 2])))
        self.assertIsNone(fitting(notes, [2, 2, 4, 2, 2, 2, 2, 2]))

    def test_errors(self):
        check_shares_named(self, lambda row: fitting(EXAMPLE, row))


class Fits(unittest.TestCase):
    def test_what_fits(self):
        seen = set()
        for notes, row in each_case(NOTES[::3]):
            lines = fitting(notes, row) or tuple(tuple(entry * rate for rate in rates)
                                                 for entry, rates in zip(row, notes.lows.rows))
            for x, y in [(0, 0), *notes.lows.pairs_of(notes.size)[:4]]:
                for more in (0, 1, -1):
                    changed = [list(line) for line in lines]
                    if x != y:
                        changed[x][y] += more
                        changed[y][x] += more
                    kept = [list(line) for line in changed]
                    expected = slow_fits(notes, row, changed)
                    self.assertIs(is_fitting(notes, row, changed), expected)
                    self.assertIs(is_fitting(notes, list(row), tuple(map(tuple, changed))), expected)
                    self.assertEqual(changed, kept)
                    seen.add(expected)
        self.assertEqual(seen, {True, False})

    def test_each_of_the_conditions(self):
        row = [8, 4, 3]
        self.assertIs(is_fitting(EXAMPLE, row, [[0, 16, 0], [4, 0, 12], [12, 0, 0]]), True)
        # Not balanced; below a low and balanced; above a high and balanced.
        self.assertIs(is_fitting(EXAMPLE, row, [[0, 16, 0], [4, 0, 13], [12, 0, 0]]), False)
        self.assertIs(is_fitting(EXAMPLE, row, [[0, 15, 0], [3, 0, 12], [12, 0, 0]]), False)
        self.assertIs(is_fitting(EXAMPLE, row, [[0, 17, 0], [5, 0, 12], [12, 0, 0]]), False)
        self.assertIs(is_fitting(EXAMPLE, [8, 4, 4], [[0, 16, 0], [4, 0, 12], [12, 0, 0]]), False)

    def test_whatever_it_is(self):
        lines = [[0, 16, 0], [4, 0, 12], [12, 0, 0]]
        for thing in (None, 0, True, "abc", {0: [0, 16, 0]}, [], lines[:2], lines + [[0, 0, 0]], set(), range(3)):
            self.assertIs(is_fitting(EXAMPLE, [8, 4, 3], thing), False)
        for x in range(3):
            for thing in (None, 5, "000", {0, 1, 2}, [0, 0], [0, 0, 0, 0], range(3)):
                changed = list(lines)
                changed[x] = thing
                self.assertIs(is_fitting(EXAMPLE, [8, 4, 3], changed), False)
            for y in range(3):
                for thing in (None, str(lines[x][y]), float(lines[x][y]), (lines[x][y],), [0], False):
                    changed = [list(line) for line in lines]
                    changed[x][y] = thing
                    self.assertIs(is_fitting(EXAMPLE, [8, 4, 3], changed), False)
        changed = [[1, 16, 0], [4, 0, 12], [12, 0, 0]]
        self.assertIs(is_fitting(EXAMPLE, [8, 4, 3], changed), False)
        ones = Notes.of_world(complete(2))
        self.assertIs(is_fitting(ones, [1, 1], [[0, 1], [1, 0]]), True)
        self.assertIs(is_fitting(ones, [1, 1], [[0, True], [1, 0]]), False)

    def test_errors(self):
        for thing in ([[0, 16, 0], [4, 0, 12], [12, 0, 0]], None, []):
            check_shares_named(self, lambda row, thing=thing: is_fitting(EXAMPLE, row, thing))


class Worlds(unittest.TestCase):
    def test_scaled_worlds_have_the_row(self):
        for notes, row in each_case():
            lines = fitting(notes, row)
            if lines is not None:
                for given in (lines, [list(line) for line in lines]):
                    scale, table = scaled_of(list(row), given)
                    self.assertTrue(is_scaled_world(notes, (scale, table)))
                    self.assertTrue(is_balanced_at(table, row))
                    for x, y in table.pairs_of(notes.size):
                        self.assertEqual(table.rows[x][y] * row[x], lines[x][y] * scale)
                    self.assertTrue(all(scale % entry == 0 for entry in row))
                if notes.size < 5:
                    self.assertTrue(is_share_row_of(table, row))

    def test_edges(self):
        self.assertEqual(scaled_of([8, 4, 3], ((0, 16, 0), (4, 0, 12), (12, 0, 0))),
                         (24, Chain([[0, 48, 0], [24, 0, 72], [96, 0, 0]])))
        self.assertEqual(scaled_of((4, 6), [[0, 3], [3, 0]]), (12, Chain([[0, 9], [6, 0]])))
        self.assertEqual(scaled_of((1, 1), [[0, 3], [3, 0]]), (1, Chain([[0, 3], [3, 0]])))

    def test_currents_of_chains(self):
        for chain in CHAINS:
            row = slow_lowest_row(chain)
            lines = tuple(tuple(entry * rate for rate in rates) for entry, rates in zip(row, chain.rows))
            self.assertEqual(chain_currents(chain), (row, lines))
            self.assertEqual(type(chain_currents(chain)), tuple)
            self.assertTrue(slow_fits(Notes.of_world(chain), row, lines))
        self.assertEqual(chain_currents(complete(8)), ((1,) * 8, complete(8).rows))


if __name__ == "__main__":
    unittest.main()
