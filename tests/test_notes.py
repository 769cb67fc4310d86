"""lastingshares.notes: notes and their worlds."""

import unittest

from lastingshares.chains import Chain
from lastingshares.errors import (BadNotes, BadNumber, BadPair, BadState, NotJoined, OtherSize, SameState, TooMany)
from lastingshares.notes import Notes, corners, is_scaled, worlds
from lastingshares.tables import Table
from support import (CHAINS, NOTES, check_error, check_new_list, check_numbers_named, check_states_named, complete,
                     empty, slow_worlds)

LOWS = [[0, 2, 0], [1, 0, 1], [4, 0, 0]]
HIGHS = [[0, 2, 3], [1, 0, 5], [4, 1, 0]]
SEEN = Chain(LOWS)


def example():
    return Notes(LOWS, HIGHS)


def rows_of(notes):
    return (notes.lows.rows, notes.highs.rows)


def with_entry(rows, x, y, entry):
    changed = [list(row) for row in rows]
    changed[x][y] = entry
    return changed


class Making(unittest.TestCase):
    def test_attributes(self):
        for notes in NOTES:
            self.assertEqual((type(notes.lows), type(notes.highs)), (Chain, Chain))
            unseen = tuple((x, y) for x, y in notes.lows.pairs_of(notes.size) if notes.lows[x, y] < notes.highs[x, y])
            self.assertEqual(notes.size, notes.lows.size)
            self.assertEqual((notes.unseen(), notes.unseen_many, len(notes)), (unseen, len(unseen), len(unseen)))
            self.assertEqual(tuple(notes), unseen)
            self.assertIs(type(notes.unseen()), tuple)
        notes = example()
        self.assertEqual(rows_of(notes), (tuple(map(tuple, LOWS)), tuple(map(tuple, HIGHS))))
        self.assertEqual((notes.size, notes.unseen()), (3, ((0, 2), (1, 2), (2, 1))))

    def test_lists_may_change_later(self):
        lows, highs = [list(row) for row in LOWS], [list(row) for row in HIGHS]
        notes = Notes(lows, tuple(highs))
        lows[0][1] = 9
        highs[2] = None
        self.assertEqual(rows_of(notes), (tuple(map(tuple, LOWS)), tuple(map(tuple, HIGHS))))

    def test_two_and_eight_states(self):
        great = Notes(complete(8).rows, (complete(8) * 10 ** 12).rows)
        self.assertEqual((great.unseen_many, great.unseen()), (56, tuple(Table.pairs_of(8))))
        self.assertEqual(Notes([[0, 1], [1, 0]], [[0, 1], [2, 0]]).unseen(), ((1, 0),))
        ring = Chain.around([1] * 8)
        self.assertEqual(Notes(ring.rows, complete(8).rows).unseen_many, 48)

    def test_lows_that_are_no_table(self):
        for highs in (HIGHS, None, [[0, 1], [1, 0]]):
            for thing in (None, 0, "012", {0: 1}, [], [[0]], [[0] * 9] * 9, SEEN):
                check_error(self, BadNotes(-1, -1), Notes, thing, highs)
            for thing in (None, 0, [0, 1], (0, 1, 2, 3)):
                check_error(self, BadNotes(1, -1), Notes, [LOWS[0], thing, None], highs)
            for thing in (True, False, None, "1", -1, 1.0):
                check_error(self, BadNotes(1, 2), Notes, with_entry(LOWS, 1, 2, thing), highs)
            check_error(self, BadNotes(2, 2), Notes, with_entry(LOWS, 2, 2, 1), highs)

    def test_highs_that_are_no_table(self):
        # Lows that are not joined, of whatever size, come later.
        for lows in (LOWS, [[0, 0], [0, 0]], empty(8).rows):
            for thing in (None, 0, "012", [], [[0]], SEEN):
                check_error(self, BadNotes(-1, -1), Notes, lows, thing)
            check_error(self, BadNotes(2, -1), Notes, lows, [HIGHS[0], HIGHS[1], [0]])
            for thing in (True, False, None, -1):
                check_error(self, BadNotes(1, 0), Notes, lows, with_entry(HIGHS, 1, 0, thing))
            check_error(self, BadNotes(0, 0), Notes, lows, with_entry(HIGHS, 0, 0, 1))

    def test_sizes_bounds_and_lots(self):
        check_error(self, OtherSize(4), Notes, LOWS, empty(4).rows)
        check_error(self, OtherSize(2), Notes, empty(8).rows, [[0, 1], [1, 0]])
        check_error(self, BadNotes(1, 2), Notes, with_entry(with_entry(LOWS, 1, 2, 6), 2, 0, 5), HIGHS)
        check_error(self, BadNotes(0, 1), Notes, empty(3).with_rate(0, 1, 3).rows, HIGHS)
        check_error(self, NotJoined((0, 1)), Notes, [[0, 2, 0], [1, 0, 0], [4, 0, 0]], HIGHS)
        check_error(self, NotJoined((0,)), Notes, empty(3).rows, empty(3).rows)

    def test_of_world(self):
        for chain in CHAINS[::4]:
            notes = Notes.of_world(chain)
            self.assertEqual((notes.lows, notes.highs, notes.unseen_many), (chain, chain, 0))

    def test_around(self):
        for chain in CHAINS[::4]:
            for below, above in ((0, 0), (2, 0), (0, 3), (4, 1), (10 ** 12, 10 ** 12)):
                notes = Notes.around(chain, below, above)
                for x, y in chain.pairs_of(chain.size):
                    rate = chain[x, y]
                    expected = (max(1, rate - below), rate + above) if rate else (0, 0)
                    self.assertEqual(notes.stretch(x, y), expected)
        for above in (0, -1, True):
            check_numbers_named(self, "below", lambda below, above=above: Notes.around(SEEN, below, above), least=0)
        check_numbers_named(self, "above", lambda above: Notes.around(SEEN, 1, above), least=0)


class Asking(unittest.TestCase):
    def test_stretches(self):
        for notes in NOTES:
            for x, y in notes.lows.pairs_of(notes.size):
                found = notes.stretch(x, y)
                self.assertEqual((type(found), found), (tuple, (notes.lows.rows[x][y], notes.highs.rows[x][y])))
        check_states_named(self, lambda table, x, y: example().stretch(x, y), SEEN, (0, 1), same=((0, 1),))

    def test_agreeing_tables(self):
        for notes in NOTES[::5]:
            for world in slow_worlds(notes)[::3]:
                self.assertIs(notes.agrees(world), True)
                self.assertIs(notes.agrees(Table(world.rows)), True)
                self.assertIsNone(notes.wrong_pair(world))
                for x, y in world.pairs_of(notes.size):
                    for rate in (notes.lows[x, y] - 1, notes.highs[x, y] + 1):
                        if rate >= 0:
                            other = Table(world.rows).with_rate(x, y, rate)
                            self.assertIs(notes.agrees(other), False)
                            self.assertEqual(notes.wrong_pair(other), (x, y))

    def test_the_least_wrong_pair(self):
        self.assertEqual(example().wrong_pair(empty(3)), (0, 1))
        self.assertEqual(example().wrong_pair(Table([[0, 2, 3], [1, 0, 6], [3, 2, 0]])), (1, 2))
        for table in (complete(2), empty(8)):
            self.assertIs(example().agrees(table), False)
            check_error(self, OtherSize(table.size), example().wrong_pair, table)

    def test_equal_notes(self):
        notes = example()
        self.assertTrue(notes == example())
        self.assertFalse(notes != example())
        for other in (Notes(LOWS, with_entry(HIGHS, 1, 2, 6)), Notes(with_entry(LOWS, 2, 1, 1), HIGHS),
                      Notes.of_world(SEEN), Notes.of_world(complete(2)), SEEN, None, (LOWS, HIGHS), 3):
            self.assertIs(notes == other, False)
            self.assertIs(notes != other, True)

    def test_shape(self):
        for notes in NOTES:
            found = notes.shape()
            self.assertIs(type(found), Chain)
            self.assertEqual(found.rows, tuple(tuple(min(rate, 1) for rate in row) for row in notes.highs.rows))


class Changing(unittest.TestCase):
    def check_stretch(self, notes, changed, x, y, low, high):
        self.assertIs(type(changed), Notes)
        for pair in notes.lows.pairs_of(notes.size):
            self.assertEqual(changed.stretch(*pair), (low, high) if pair == (x, y) else notes.stretch(*pair))

    def test_narrow(self):
        for notes in NOTES[::4]:
            before = rows_of(notes)
            for x, y in notes.lows.pairs_of(notes.size):
                low, high = notes.stretch(x, y)
                for new_low in range(low, high + 1):
                    for new_high in range(new_low, high + 1):
                        self.check_stretch(notes, notes.narrow(x, y, new_low, new_high), x, y, new_low, new_high)
                check_error(self, BadNumber("low"), notes.narrow, x, y, low - 1, high + 1)
                check_error(self, BadNumber("high"), notes.narrow, x, y, low, high + 1)
                check_error(self, BadNumber("high"), notes.narrow, x, y, high + 1, high + 1)
                check_error(self, BadNumber("high"), notes.narrow, x, y, high, high - 1)
            self.assertEqual(rows_of(notes), before)

    def test_widen(self):
        for notes in NOTES[::4]:
            before = rows_of(notes)
            for x, y in notes.lows.pairs_of(notes.size):
                low, high = notes.stretch(x, y)
                for new_low, new_high in ((low, high), (low, high + 5), (max(low - 1, 1) if low else 0, high)):
                    self.check_stretch(notes, notes.widen(x, y, new_low, new_high), x, y, new_low, new_high)
                check_error(self, BadNumber("low"), notes.widen, x, y, low + 1, high - 1)
                check_error(self, BadNumber("low"), notes.widen, x, y, -1, high)
                check_error(self, BadNumber("high"), notes.widen, x, y, low, high - 1)
            self.assertEqual(rows_of(notes), before)
        # A low may be brought to 0 if the lows stay joined.
        self.assertEqual(Notes.of_world(complete(3)).widen(0, 1, 0, 7).stretch(0, 1), (0, 7))
        check_error(self, NotJoined((0,)), example().widen, 0, 1, 0, 2)
        check_error(self, NotJoined((0, 1)), example().widen, 1, 2, 0, 9)
        check_error(self, BadNumber("high"), example().widen, 0, 1, 0, 1)

    def test_ask(self):
        for notes in NOTES[::4]:
            for x, y in notes.lows.pairs_of(notes.size):
                low, high = notes.stretch(x, y)
                for rate in range(low, high + 1):
                    self.check_stretch(notes, notes.ask(x, y, rate), x, y, rate, rate)
                for rate in (low - 1, high + 1):
                    check_error(self, BadNumber("rate"), notes.ask, x, y, rate)

    def test_common_worlds(self):
        for notes, other in zip(NOTES, NOTES[1:]):
            if notes.size == other.size:
                wrong = [pair for pair in notes.lows.pairs_of(notes.size)
                         if max(notes.lows[pair], other.lows[pair]) > min(notes.highs[pair], other.highs[pair])]
                if wrong:
                    check_error(self, BadNotes(*wrong[0]), lambda: notes & other)
                else:
                    self.assertEqual(slow_worlds(notes & other), [w for w in slow_worlds(notes) if other.agrees(w)])
            else:
                check_error(self, OtherSize(other.size), lambda: notes & other)
        notes = example()
        wide = notes.widen(1, 2, 1, 9).narrow(0, 2, 1, 2)
        self.assertEqual(rows_of(notes & wide), rows_of(notes.narrow(0, 2, 1, 2)))
        self.assertEqual(rows_of(wide & notes), rows_of(notes & wide))
        self.assertEqual((rows_of(notes), type(notes & wide)), (rows_of(example()), Notes))
        check_error(self, BadNotes(0, 2), lambda: notes.ask(0, 2, 3).ask(2, 1, 0) & wide.ask(2, 1, 1))
        check_error(self, OtherSize(8), lambda: notes & Notes.of_world(complete(8)))

    def test_wrong_numbers_and_states(self):
        notes = example()
        for name, call in (("low", lambda low: notes.narrow(0, 2, low, None)),
                           ("high", lambda high: notes.narrow(0, 2, 1, high)),
                           ("low", lambda low: notes.widen(0, 2, low, None)),
                           ("high", lambda high: notes.widen(0, 2, 0, high)),
                           ("rate", lambda rate: notes.ask(0, 2, rate))):
            check_numbers_named(self, name, call, least=None)
        for call, rest in ((notes.narrow, (0, 1)), (notes.widen, (9, True)), (notes.ask, (None,))):
            check_states_named(self, lambda table, *args, call=call: call(*args), SEEN, (0, 1, *rest),
                               same=((0, 1),), at=(0, 1))
        check_error(self, BadState(1), notes.ask, 0, 3, 1)
        check_error(self, SameState(0, 1), notes.widen, 1, 1, True, True)


class Worlds(unittest.TestCase):
    def test_world(self):
        for notes in NOTES[::3]:
            pairs = notes.lows.pairs_of(notes.size)
            for high in (pairs, [], pairs[::2], pairs[1::3]):
                found = notes.world([list(pair) for pair in high[::-1]])
                self.assertIs(type(found), Chain)
                for pair in pairs:
                    self.assertEqual(found[pair], notes.stretch(*pair)[pair in high])
        notes = example()
        for thing in (None, 0, "01", {(0, 1)}):
            check_error(self, BadPair(-1), notes.world, thing)
        for thing in (None, (0,), (1, 1), (0, 3), (True, 0)):
            check_error(self, BadPair(1), notes.world, [(0, 1), thing, None])
        check_error(self, BadPair(2), notes.world, ((0, 1), (1, 0), [0, 1]))

    def test_worlds(self):
        for notes in NOTES:
            found = worlds(notes)
            self.assertEqual([world.rows for world in found], [world.rows for world in slow_worlds(notes)])
            self.assertEqual({type(world) for world in found}, {Chain})
        check_new_list(self, worlds, example())

    def test_corners(self):
        for notes in NOTES:
            found = corners(notes)
            expected = [world for world in slow_worlds(notes)
                        if all(world[pair] in notes.stretch(*pair) for pair in notes)]
            self.assertEqual([world.rows for world in found], [world.rows for world in expected])
            self.assertEqual({type(world) for world in found}, {Chain})
        check_new_list(self, corners, example())

    def test_limits(self):
        notes = example()
        self.assertEqual((len(worlds(notes, limit=40)), len(corners(notes, limit=8))), (40, 8))
        check_error(self, TooMany(39), worlds, notes, limit=39)
        check_error(self, TooMany(7), corners, notes, limit=7)
        for call in (worlds, corners):
            self.assertEqual(len(call(Notes.of_world(SEEN), limit=1)), 1)
            check_error(self, TooMany(0), call, Notes.of_world(SEEN), limit=0)
        thousand = Notes(LOWS, with_entry(LOWS, 1, 2, 1000))
        self.assertEqual((len(worlds(thousand)), worlds(thousand)[-1][1, 2]), (1000, 1000))
        check_error(self, TooMany(1000), worlds, thousand.widen(1, 2, 1, 1001))
        check_error(self, TooMany(1000), worlds, thousand.widen(1, 2, 1, 10 ** 12))
        self.assertEqual([world[1, 2] for world in corners(thousand.widen(1, 2, 1, 10 ** 12))], [1, 10 ** 12])
        great = Notes(complete(8).rows, (complete(8) * 10 ** 12).rows)
        for call in (worlds, corners):
            check_error(self, TooMany(1000), call, great)
        ring = Chain.around([1] * 8)
        nine = ring + Table([[0, 0, 4, 4, 4, 4, 4, 0], [0, 0, 0, 4, 4, 4, 4, 0]] + [[0] * 8] * 6)
        self.assertEqual(len(corners(Notes(ring.rows, nine.rows))), 512)
        check_error(self, TooMany(1000), corners, Notes(ring.rows, nine.with_rate(7, 1, 1).rows))

    def test_scaled_worlds(self):
        notes = example()
        for world in slow_worlds(notes):
            self.assertIs(is_scaled(notes, (1, world)), True)
            self.assertIs(is_scaled(notes, (3, Table((world * 3).rows))), True)
        between = Table([[0, 4, 5], [2, 0, 3], [8, 1, 0]])
        self.assertIs(is_scaled(notes, (2, between)), True)
        self.assertIs(is_scaled(notes, (1, between)), False)
        for x, y, rate in ((0, 1, 5), (0, 1, 3), (0, 2, 7), (1, 2, 11), (1, 2, 1), (2, 1, 3)):
            self.assertIs(is_scaled(notes, (2, between.with_rate(x, y, rate))), False)
        world = SEEN
        for thing in (None, 1, "12", (), (1,), [1, world], (1, world, 1), (True, world), (0, world), (-1, world),
                      (1.0, world), ("1", world), (world, 1), (1, world.rows), (1, None), (1, complete(2)),
                      (1, complete(8)), {1: world}, world, (0, empty(3)), (-1, empty(3))):
            self.assertIs(is_scaled(notes, thing), False)


if __name__ == "__main__":
    unittest.main()
