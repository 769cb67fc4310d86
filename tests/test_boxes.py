"""lastingshares.boxes: decided and free pairs, the box of the greatest worlds, and wider stretches."""

import unittest
from fractions import Fraction

from lastingshares.aims import Cost, Mean, Ratio
from lastingshares.boxes import box, decided, grows_high, grows_low
from lastingshares.chains import Chain, is_joined
from lastingshares.ends import ends_of, greatest
from lastingshares.errors import BadNumber, NotJoined
from lastingshares.notes import Notes
from lastingshares.tables import Table
from support import (NOTES, aims_for, check_aims_named, check_error, check_states_named, complete, sign,
                     slow_aim_push, slow_pair, slow_worlds)

EXAMPLE = Notes([[0, 2, 0], [1, 0, 1], [4, 0, 0]], [[0, 2, 0], [1, 0, 5], [4, 0, 0]])
GREAT = Notes(Chain.around([1] * 8).rows, [[0 if x == y else 10 ** 12 - 9 * x - y for y in range(8)] for x in range(8)])


def greatest_worlds(notes, aim):
    found = [(Fraction(*slow_pair(aim, world)), world) for world in slow_worlds(notes)]
    most = max(number for number, _ in found)
    return [world for number, world in found if number == most]


FEW = [notes for notes in NOTES if notes.size < 5][::4]


def each_case(chosen=NOTES):
    for place, notes in enumerate(chosen):
        for aim in aims_for(notes.size)[place % 2::2]:
            yield notes, aim


class Boxes(unittest.TestCase):
    def test_decided_pairs(self):
        for notes, aim in each_case():
            found = decided(notes, aim)
            for world in greatest_worlds(notes, aim)[::4]:
                signs = {pair: sign(slow_aim_push(aim, world, *pair)) for pair in notes.unseen()}
                self.assertEqual(found, tuple(tuple(pair for pair in signs if signs[pair] == wanted)
                                              for wanted in (1, -1, 0)))
            self.assertEqual((type(found), [type(pairs) for pairs in found]), (tuple, [tuple] * 3))

    def test_boxes(self):
        for notes, aim in each_case():
            found = box(notes, aim)
            self.assertIs(type(found), Notes)
            self.assertEqual([world.rows for world in slow_worlds(found)],
                             [world.rows for world in greatest_worlds(notes, aim)])
            high, low, free = decided(notes, aim)
            for pair in notes.lows.pairs_of(notes.size):
                bottom, top = notes.stretch(*pair)
                expected = (top, top) if pair in high else (bottom, bottom) if pair in low else (bottom, top)
                self.assertEqual(found.stretch(*pair), expected)

    def test_edges(self):
        self.assertEqual(decided(EXAMPLE, Ratio(0, 1)), (((1, 2),), (), ()))
        self.assertEqual(decided(EXAMPLE, Ratio(1, 0)), ((), ((1, 2),), ()))
        self.assertEqual(decided(EXAMPLE, Mean([4, 4, 4])), ((), (), ((1, 2),)))
        self.assertEqual(box(EXAMPLE, Ratio(0, 1)), EXAMPLE.ask(1, 2, 5))
        self.assertEqual(box(EXAMPLE, Mean([4, 4, 4])), EXAMPLE)
        seen = Notes.of_world(complete(8))
        self.assertEqual((decided(seen, Ratio(0, 1)), box(seen, Ratio(0, 1))), (((), (), ()), seen))

    def test_eight_states_with_all_pairs_unseen(self):
        for aim in (Ratio(2, 5), Mean([3, 1, -4, 1, 5, -9, 2, 6]), Cost([0] * 8, [[0] * 8] * 8)):
            high, low, free = decided(GREAT, aim)
            self.assertEqual(tuple(sorted(high + low + free)), GREAT.unseen())
            found = box(GREAT, aim)
            self.assertEqual(found.unseen(), free)
            for world in (found.lows, found.highs):
                self.assertEqual(aim(world), ends_of(GREAT, aim)[1])
        # From 0, 1, 6 and 7 the thing comes to 2 before 5 in any case, from 3 and 4 perhaps not.
        high, low, free = decided(GREAT, Ratio(2, 5))
        sure = (0, 1, 2, 6, 7)
        self.assertEqual([pair for pair in high if pair[1] in sure], [(x, y) for x in (3, 4, 5) for y in sure])
        self.assertEqual([pair for pair in low if pair[0] in sure], [(x, y) for x in sure for y in (3, 4, 5)])
        self.assertEqual(free, tuple((x, y) for x in sure for y in sure if x != y))

    def test_aims(self):
        for call in (decided, box):
            check_aims_named(self, lambda aim, call=call: call(EXAMPLE, aim))


class Growth(unittest.TestCase):
    def most(self, notes, aim):
        return max(Fraction(*slow_pair(aim, world)) for world in slow_worlds(notes))

    def test_higher_highs(self):
        for notes, aim in each_case(FEW):
            before = self.most(notes, aim)
            for x, y in notes.lows.pairs_of(notes.size)[::2]:
                low, high = notes.stretch(x, y)
                self.assertIs(grows_high(notes, aim, x, y), self.most(notes.widen(x, y, low, high + 1), aim) > before)

    def test_lower_lows(self):
        for notes, aim in each_case(FEW):
            before = self.most(notes, aim)
            for x, y in notes.lows.pairs_of(notes.size):
                low, high = notes.stretch(x, y)
                lower = Table(notes.lows.rows).with_rate(x, y, max(low - 1, 0))
                if low == 0:
                    check_error(self, BadNumber("low"), grows_low, notes, aim, x, y)
                elif not is_joined(lower):
                    with self.assertRaises(NotJoined) as caught:
                        Chain(lower.rows)
                    check_error(self, NotJoined(caught.exception.lot), grows_low, notes, aim, x, y)
                else:
                    expected = self.most(notes.widen(x, y, low - 1, high), aim) > before
                    self.assertIs(grows_low(notes, aim, x, y), expected)

    def test_edges(self):
        aim = Ratio(0, 1)
        self.assertEqual([grows_high(EXAMPLE, aim, x, y) for x, y in Table.pairs_of(3)],
                         [slow_aim_push(aim, greatest(EXAMPLE, aim), x, y) > 0 for x, y in Table.pairs_of(3)])
        # The pair 01 is seen; a lower rate there is better, a higher one is not.
        self.assertEqual((grows_high(EXAMPLE, aim, 0, 1), grows_low(EXAMPLE, aim, 0, 1)), (False, True))
        self.assertEqual((grows_high(EXAMPLE, aim, 2, 0), grows_high(EXAMPLE, Mean([4, 4, 4]), 2, 0)), (False, False))
        self.assertEqual((grows_high(EXAMPLE, aim, 1, 0), grows_low(EXAMPLE, Ratio(1, 0), 0, 1)), (True, False))
        self.assertEqual([grows_high(GREAT, Ratio(2, 5), x, y) for x, y in ((3, 2), (1, 2), (2, 3))],
                         [True, False, False])
        check_error(self, NotJoined((0,)), grows_low, GREAT, Ratio(2, 5), 0, 1)
        check_error(self, BadNumber("low"), grows_low, GREAT, Ratio(2, 5), 0, 2)
        check_error(self, NotJoined((0, 1)), grows_low, EXAMPLE, aim, 1, 2)

    def test_errors(self):
        for call in (grows_high, grows_low):
            for x, y in ((0, 1), (0, 2), (True, 5), (1, 1)):
                check_aims_named(self, lambda aim, call=call, x=x, y=y: call(EXAMPLE, aim, x, y))
            check_states_named(self, lambda table, *args, call=call: call(EXAMPLE, *args), EXAMPLE.lows,
                               (Ratio(0, 1), 0, 1), same=((0, 1),), at=(1, 2))


if __name__ == "__main__":
    unittest.main()
