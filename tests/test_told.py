"""lastingshares.told: spans of rates, told pairs, two worlds with the same row."""

import unittest
from fractions import Fraction

from lastingshares.chains import Chain
from lastingshares.errors import BadState, NotReached, SameState
from lastingshares.notes import Notes
from lastingshares.told import rate_span, tells_rates, told_pairs, two_worlds
from support import (NOTES, all_lots, check_error, check_shares_named, check_states_named, complete, currents_number,
                     is_balanced_at, is_scaled_world, share_rows_for, slow_currents, slow_lowest_row, slow_room,
                     slow_worlds)

EXAMPLE = Notes([[0, 2, 0], [1, 0, 1], [4, 0, 0]], [[0, 2, 0], [1, 0, 5], [4, 0, 0]])
RING = Notes(Chain.around([1, 1, 1]).rows, [[0, 3, 0], [2, 0, 4], [1, 0, 0]])
GREAT = Notes(Chain.around([1] * 8).rows, [[0 if x == y else 10 ** 12 - 9 * x - y for y in range(8)] for x in range(8)])
MOST_TRIES = 4000


def is_free(notes, row):
    return min(slow_room(notes, row, lot) for lot in all_lots(notes.size)) >= 0


def listed_cases():
    """Notes, a row that is reached, and all its fitting currents, where these can be listed."""
    for notes in NOTES + [RING]:
        for row in share_rows_for(notes):
            if currents_number(notes, row) <= MOST_TRIES and is_free(notes, row):
                yield notes, row, slow_currents(notes, row)


def reached_cases():
    for notes in NOTES[::2] + [RING, EXAMPLE]:
        for row in share_rows_for(notes):
            if is_free(notes, row):
                yield notes, row


def number_of(two):
    return Fraction(*two)


class Spans(unittest.TestCase):
    def test_against_all_fitting_currents(self):
        many = 0
        for notes, row, found in listed_cases():
            for x, y in notes.lows.pairs_of(notes.size):
                rates = [Fraction(lines[x][y], row[x]) for lines in found]
                expected = tuple((number.numerator, number.denominator) for number in (min(rates), max(rates)))
                span = rate_span(notes, list(row), x, y)
                self.assertEqual((type(span), span), (tuple, expected))
            many += 1
        self.assertGreater(many, 50)

    def test_worlds_with_the_row_lie_in_the_spans(self):
        for notes in NOTES[::3]:
            for world in slow_worlds(notes)[::5]:
                row = slow_lowest_row(world)
                for x, y in world.pairs_of(world.size):
                    low, high = map(number_of, rate_span(notes, row, x, y))
                    self.assertTrue(low <= world[x, y] <= high)
                    self.assertTrue(notes.lows[x, y] <= low and high <= notes.highs[x, y])

    def test_a_rate_is_had_exactly_if_it_lies_in_the_span(self):
        # Whether the notes with the one rate as a seen rate reach the row is told by the rooms alone.
        for notes, row in list(reached_cases())[::4]:
            for x, y in notes.unseen():
                low, high = map(number_of, rate_span(notes, row, x, y))
                for rate in range(notes.lows[x, y], notes.highs[x, y] + 1):
                    if rate > 0 or notes.lows[x, y] == 0:
                        self.assertIs(is_free(notes.ask(x, y, rate), row), low <= rate <= high)

    def test_edges(self):
        self.assertEqual(rate_span(EXAMPLE, [8, 4, 3], 1, 2), ((3, 1), (3, 1)))
        self.assertEqual(rate_span(EXAMPLE, [8, 4, 3], 0, 2), ((0, 1), (0, 1)))
        # Equal shares: 20 carries 1, so does 12; what 10 sends back, 01 brings again.
        self.assertEqual(rate_span(RING, [1, 1, 1], 0, 1), ((1, 1), (3, 1)))
        self.assertEqual(rate_span(RING, [1, 1, 1], 1, 0), ((0, 1), (2, 1)))
        self.assertEqual(rate_span(RING, [2, 2, 3], 1, 2), ((3, 2), (3, 2)))
        self.assertEqual(rate_span(RING, [2, 2, 3], 0, 1), ((3, 2), (3, 1)))
        low, high = rate_span(GREAT, [1] * 8, 0, 2)
        self.assertEqual((low, high), ((0, 1), (10 ** 12 - 2, 1)))
        row = [10 ** 6] + [1] * 7
        # What leaves 0 can at most be what comes in.
        most = Fraction(sum(GREAT.highs.rows[x][0] for x in range(1, 8)), 10 ** 6)
        self.assertEqual(number_of(rate_span(GREAT, row, 0, 1)[1]), most)

    def test_errors(self):
        for row in ([1, 1, 1], [2, 1, 1], None):
            check_states_named(self, lambda table, *args: rate_span(EXAMPLE, *args), EXAMPLE.lows, (row, 0, 1),
                               same=((0, 1),), at=(1, 2))
        check_shares_named(self, lambda row: rate_span(EXAMPLE, row, 1, 2))
        check_error(self, BadState(1), rate_span, EXAMPLE, [0], 1, 3)
        check_error(self, SameState(0, 1), rate_span, EXAMPLE, [0], 1, 1)


class Told(unittest.TestCase):
    def test_against_all_fitting_currents(self):
        seen = set()
        for notes, row, found in listed_cases():
            told = tuple((x, y) for x, y in notes.unseen() if len({lines[x][y] for lines in found}) == 1)
            self.assertEqual((type(told_pairs(notes, row)), told_pairs(notes, row)), (tuple, told))
            self.assertIs(tells_rates(notes, list(row)), told == notes.unseen())
            self.assertIs(two_worlds(notes, row) is None, told == notes.unseen())
            seen |= {told == notes.unseen(), "some" if 0 < len(told) < len(notes) else "all or none"}
        self.assertEqual(seen, {True, False, "some", "all or none"})

    def test_two_worlds_differ(self):
        many = 0
        for notes, row in reached_cases():
            found = two_worlds(notes, row)
            self.assertIs(found is None, tells_rates(notes, row))
            if found is not None:
                (one, first), (other, second) = found
                self.assertEqual((type(found), len(found)), (tuple, 2))
                for scaled in found:
                    self.assertTrue(is_scaled_world(notes, scaled))
                    self.assertTrue(is_balanced_at(scaled[1], row))
                self.assertNotEqual((first * other).rows, (second * one).rows)
                many += 1
        self.assertGreater(many, 20)

    def test_edges(self):
        self.assertEqual((told_pairs(EXAMPLE, [8, 4, 3]), tells_rates(EXAMPLE, [8, 4, 3])), (((1, 2),), True))
        self.assertIsNone(two_worlds(EXAMPLE, [8, 4, 3]))
        self.assertEqual((told_pairs(RING, [1, 1, 1]), tells_rates(RING, [1, 1, 1])), (((1, 2),), False))
        for notes in (Notes.of_world(complete(2)), Notes.of_world(complete(8))):
            self.assertEqual((told_pairs(notes, [3] * notes.size), tells_rates(notes, [3] * notes.size)), ((), True))
            self.assertIsNone(two_worlds(notes, [3] * notes.size))
        two = Notes([[0, 1], [1, 0]], [[0, 4], [3, 0]])
        self.assertEqual((told_pairs(two, [1, 4]), told_pairs(two, [1, 3])), (((0, 1), (1, 0)), ()))

    def test_eight_states_with_all_pairs_unseen(self):
        row = [10 ** 6, 1, 3, 999999, 7, 7, 12, 1]
        self.assertEqual((told_pairs(GREAT, row), tells_rates(GREAT, row)), ((), False))
        for row in (row, [1] * 8):
            (one, first), (other, second) = two_worlds(GREAT, row)
            for scaled in ((one, first), (other, second)):
                self.assertTrue(is_scaled_world(GREAT, scaled) and is_balanced_at(scaled[1], row))
            self.assertNotEqual((first * other).rows, (second * one).rows)

    def test_errors(self):
        for call in (told_pairs, tells_rates, two_worlds):
            check_shares_named(self, lambda row, call=call: call(EXAMPLE, row))

    def test_rows_that_are_not_reached(self):
        many = 0
        for notes in NOTES + [EXAMPLE]:
            for row in share_rows_for(notes) + [(2,) + (1,) * (notes.size - 1)]:
                if not is_free(notes, row):
                    for call in (told_pairs, tells_rates, two_worlds,
                                 lambda notes, row: rate_span(notes, row, 0, 1)):
                        with self.assertRaises(NotReached) as caught:
                            call(notes, row)
                        lot = caught.exception.lot
                        self.assertEqual((type(lot), lot), (tuple, tuple(sorted(lot))))
                        self.assertLess(slow_room(notes, row, lot), 0)
                    many += 1
        self.assertGreater(many, 50)
        check_error(self, NotReached((1, 2)), rate_span, EXAMPLE, [2, 1, 1], 0, 1)


if __name__ == "__main__":
    unittest.main()
