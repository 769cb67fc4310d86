"""lastingshares.ends: greatest and least worlds, and what would be better."""

import unittest
from fractions import Fraction

from lastingshares.aims import Cost, Mean, Ratio
from lastingshares.chains import Chain
from lastingshares.ends import better, ends_of, greatest, is_greatest, is_least, least
from lastingshares.errors import BadState, NotAgreeing, OtherSize
from lastingshares.notes import Notes
from lastingshares.tables import Table
from support import NOTES, aims_for, check_aims_named, check_error, complete, slow_pair, slow_worlds

EXAMPLE = Notes([[0, 2, 0], [1, 0, 1], [4, 0, 0]], [[0, 2, 3], [1, 0, 5], [4, 1, 0]])
GREAT = Notes(Chain.around([1] * 8).rows, [[0 if x == y else 10 ** 12 - 9 * x - y for y in range(8)] for x in range(8)])
ROW = [3, 1, -4, 1, 5, -9, 2, 6]
WIDE_COSTS = [[0 if x == y else (x * 7 ** 14 + y * 7 ** 13) % 10 ** 9 - 10 ** 8 for y in range(8)] for x in range(8)]
GREAT_AIMS = [Ratio(0, 7), Ratio(4, 3), Mean(ROW), Mean([0] * 7 + [10 ** 12]), Cost(ROW, WIDE_COSTS),
              Cost([0] * 8, WIDE_COSTS)]


def parts_of(number):
    return (number.numerator, number.denominator)


def slow_fraction(aim, world):
    return Fraction(*slow_pair(aim, world))


def each_case():
    """Notes, an aim, and each world beside its fraction."""
    for notes in NOTES:
        found = slow_worlds(notes)
        for aim in aims_for(notes.size):
            yield notes, aim, [(world, slow_fraction(aim, world)) for world in found]


class Ends(unittest.TestCase):
    def test_against_all_worlds(self):
        for notes, aim, found in each_case():
            numbers = [number for _, number in found]
            for call, number in ((greatest, max(numbers)), (least, min(numbers))):
                world = call(notes, aim)
                self.assertIs(type(world), Chain)
                self.assertTrue(notes.agrees(world))
                self.assertEqual(slow_fraction(aim, world), number)
            self.assertEqual(ends_of(notes, aim), (parts_of(min(numbers)), parts_of(max(numbers))))

    def test_seen_pairs_alone(self):
        for chain in (complete(2), complete(8), EXAMPLE.lows):
            notes = Notes.of_world(chain)
            for aim in (Ratio(1, 0), Mean(list(range(chain.size)))):
                self.assertEqual((greatest(notes, aim), least(notes, aim)), (chain, chain))
                self.assertEqual(ends_of(notes, aim), (aim(chain), aim(chain)))

    def test_eight_states_with_all_pairs_unseen(self):
        for aim in GREAT_AIMS:
            low, high = least(GREAT, aim), greatest(GREAT, aim)
            self.assertTrue(is_greatest(GREAT, aim, high) and is_least(GREAT, aim, low))
            self.assertEqual(ends_of(GREAT, aim), (aim(low), aim(high)))
            self.assertLess(Fraction(*aim(low)), Fraction(*aim(high)))
            for world in (GREAT.lows, GREAT.highs, GREAT.world(GREAT.unseen()[::3])):
                self.assertTrue(Fraction(*aim(low)) <= Fraction(*aim(world)) <= Fraction(*aim(high)))
                if aim(world) not in (aim(low), aim(high)):
                    self.assertFalse(is_greatest(GREAT, aim, world) or is_least(GREAT, aim, world))

    def test_all_worlds_alike(self):
        for aim in (Mean([5] * 8), Cost([-3] * 8, [[0] * 8] * 8)):
            self.assertEqual(ends_of(GREAT, aim), (aim(GREAT.lows), aim(GREAT.highs)))
            self.assertTrue(is_greatest(GREAT, aim, GREAT.lows) and is_least(GREAT, aim, GREAT.highs))


class Worlds(unittest.TestCase):
    def test_which_worlds_are_greatest_or_least(self):
        for notes, aim, found in each_case():
            numbers = [number for _, number in found]
            for world, number in found[::3]:
                self.assertIs(is_greatest(notes, aim, world), number == max(numbers))
                self.assertIs(is_least(notes, aim, Table(world.rows)), number == min(numbers))

    def test_what_would_be_better(self):
        for notes, aim, found in each_case():
            for world, number in found[::5]:
                expected = None
                for a, b in reversed(notes.unseen()):
                    for rate in notes.stretch(a, b):
                        if slow_fraction(aim, world.with_rate(a, b, rate)) > number:
                            expected = (a, b, rate)
                self.assertEqual(better(notes, aim, world), expected)

    def test_better_steps_lead_to_a_greatest_world(self):
        for aim in GREAT_AIMS[::2]:
            world = GREAT.lows
            step = better(GREAT, aim, world)
            while step is not None:
                a, b, rate = step
                self.assertIn(rate, GREAT.stretch(a, b))
                world = world.with_rate(a, b, rate)
                step = better(GREAT, aim, world)
            self.assertEqual(aim(world), ends_of(GREAT, aim)[1])

    def test_edges(self):
        aim = Ratio(0, 1)
        self.assertEqual(better(EXAMPLE, aim, EXAMPLE.lows), (1, 2, 5))
        self.assertEqual(better(EXAMPLE, aim, EXAMPLE.highs), (0, 2, 0))
        self.assertEqual(better(EXAMPLE, aim, EXAMPLE.highs.with_rate(0, 2, 0)), (2, 1, 0))
        self.assertIsNone(better(EXAMPLE, aim, EXAMPLE.world([(1, 2)])))


class Errors(unittest.TestCase):
    def test_aims(self):
        for call in (greatest, least, ends_of):
            check_aims_named(self, lambda aim, call=call: call(EXAMPLE, aim))
        for call in (is_greatest, is_least, better):
            for world in (EXAMPLE.lows, complete(4), complete(3)):
                check_aims_named(self, lambda aim, call=call, world=world: call(EXAMPLE, aim, world))

    def test_worlds(self):
        for call in (is_greatest, is_least, better):
            for aim in (Ratio(0, 1), Mean([1, 2, 3])):
                for world in (complete(2), complete(8)):
                    check_error(self, OtherSize(world.size), call, EXAMPLE, aim, world)
                check_error(self, NotAgreeing(0, 1), call, EXAMPLE, aim, complete(3))
                check_error(self, NotAgreeing(1, 2), call, EXAMPLE, aim, Table([[0, 2, 3], [1, 0, 6], [3, 2, 0]]))
                check_error(self, NotAgreeing(2, 1), call, EXAMPLE, aim, EXAMPLE.highs.with_rate(2, 1, 2))
            check_error(self, BadState(1), call, EXAMPLE, Ratio(0, 3), complete(4))


if __name__ == "__main__":
    unittest.main()
