"""lastingshares.gapping: gap lots, gaps, and the same by lots."""

import unittest

from lastingshares.aims import Aim, Cost, Mean, Ratio
from lastingshares.chains import Chain
from lastingshares.ends import greatest, least
from lastingshares.errors import BadNumber, BadState
from lastingshares.gapping import gap, gap_by_lots, gap_lots
from lastingshares.notes import Notes
from support import (NOTES, check_aims_named, check_error, check_new_list, check_shares_named, complete,
                     share_rows_for, slow_long, slow_lowest_row, slow_pair, slow_room, slow_row, slow_worlds)

EXAMPLE = Notes([[0, 2, 0], [1, 0, 1], [4, 0, 0]], [[0, 2, 0], [1, 0, 5], [4, 0, 0]])
GREAT = Notes(Chain.around([1] * 8).rows, [[0 if x == y else 10 ** 12 - 9 * x - y for y in range(8)] for x in range(8)])


def aims_of(size):
    return [Ratio(0, size - 1), Ratio(1, 0), Mean([1] + [0] * (size - 1)), Mean([4] * size),
            Mean([3, -1, 4, -1, 5][:size]), Mean(list(range(size)))]


def slow_heights(world, aim):
    if isinstance(aim, Ratio):
        return slow_row(world, [aim.over, aim.under], aim.over)
    return [sum(f * slow_long(world, x, c) for c, f in enumerate(aim.row)) for x in range(world.size)]


def slow_level_lots(heights):
    levels = sorted(set(heights), reverse=True)
    return [(tuple(x for x, height in enumerate(heights) if height >= high), high - low)
            for high, low in zip(levels, levels[1:])]


def slow_gap(world, aim, row):
    u, v = slow_pair(aim, world)
    if isinstance(aim, Ratio):
        return u * row[aim.under] - v * row[aim.over]
    return v * sum(f * p for f, p in zip(aim.row, row)) - u * sum(row)


def each_case(chosen=NOTES[::2]):
    for notes in chosen:
        for aim in aims_of(notes.size):
            world = greatest(notes, aim) if isinstance(aim, Ratio) else least(notes, aim)
            yield notes, aim, world


class Gaps(unittest.TestCase):
    def test_gap_lots(self):
        for notes, aim, world in each_case():
            found = gap_lots(notes, aim)
            self.assertEqual((type(found), found), (list, slow_level_lots(slow_heights(world, aim))))
            self.assertTrue(all((type(entry), type(entry[0])) == (tuple, tuple) for entry in found))

    def test_gaps_of_rows_reached_or_not(self):
        seen = set()
        for notes, aim, world in each_case():
            for row in share_rows_for(notes):
                kept = list(row)
                number = gap(notes, aim, kept)
                self.assertEqual((type(number), number, kept), (int, slow_gap(world, aim, row), list(row)))
                lots = slow_level_lots(slow_heights(world, aim))
                self.assertEqual(gap_by_lots(notes, aim, kept),
                                 sum(times * slow_room(notes, row, lot) for lot, times in lots))
                self.assertEqual(gap_by_lots(notes, aim, row), number)
                seen.add((number > 0) - (number < 0))
        self.assertEqual(seen, {-1, 0, 1})

    def test_gaps_of_worlds_are_not_below_0(self):
        for notes, aim, world in each_case(NOTES[::4]):
            best = slow_pair(aim, world)
            for other in slow_worlds(notes)[::3]:
                u, v = slow_pair(aim, other)
                number = gap(notes, aim, slow_lowest_row(other))
                self.assertGreaterEqual(number, 0)
                self.assertIs(number == 0, u * best[1] == best[0] * v)

    def test_edges(self):
        self.assertEqual((gap_lots(EXAMPLE, Ratio(0, 1)), gap(EXAMPLE, Ratio(0, 1), [2, 1, 1])), ([((0, 2), 4)], 8))
        self.assertEqual(gap_by_lots(EXAMPLE, Ratio(0, 1), (2, 1, 1)), 8)
        self.assertEqual((gap_lots(EXAMPLE, Mean([-7, -7, -7])), gap(EXAMPLE, Mean([5, 5, 5]), [2, 1, 9])), ([], 0))
        self.assertEqual(gap_by_lots(EXAMPLE, Mean([5, 5, 5]), [2, 1, 9]), 0)
        two = Notes([[0, 1], [1, 0]], [[0, 4], [3, 0]])
        # The greatest ratio of 0 and 1 is 3 : 1, at which each of the two is come to by one arrow.
        self.assertEqual((gap_lots(two, Ratio(0, 1)), gap(two, Ratio(0, 1), [3, 1])), ([((0,), 1)], 0))
        self.assertEqual([gap(two, Ratio(0, 1), row) for row in ([1, 1], [4, 1])], [2, -1])

    def test_eight_states(self):
        row = [10 ** 6, 1, 3, 999999, 7, 7, 12, 1]
        for notes in (GREAT, Notes.around(complete(8) * 10 ** 11, 10 ** 11 - 1, 9 * 10 ** 11)):
            for aim in (Ratio(2, 5), Mean([3, 1, -4, 1, 5, -9, 2, 6]), Mean([10 ** 12] + [0] * 7)):
                world = greatest(notes, aim) if isinstance(aim, Ratio) else least(notes, aim)
                u, v = aim.pair_in(world)
                if isinstance(aim, Ratio):
                    expected = u * row[aim.under] - v * row[aim.over]
                else:
                    expected = v * sum(f * p for f, p in zip(aim.row, row)) - u * sum(row)
                self.assertEqual((gap(notes, aim, row), gap_by_lots(notes, aim, row)), (expected, expected))
                self.assertTrue(1 <= len(gap_lots(notes, aim)) <= 7)

    def test_the_list_is_new(self):
        check_new_list(self, gap_lots, EXAMPLE, Ratio(0, 1))
        check_new_list(self, gap_lots, EXAMPLE, Mean([1, 1, 1]))

    def test_errors(self):
        check_aims_named(self, lambda aim: gap_lots(EXAMPLE, aim))
        for aim in (Aim(), Cost([1, 2, 3], [[0] * 3] * 3)):
            check_error(self, BadNumber("aim"), gap_lots, EXAMPLE, aim)
        for call in (gap, gap_by_lots):
            for row in ([1, 1, 1], None, [0]):
                check_aims_named(self, lambda aim, call=call, row=row: call(EXAMPLE, aim, row))
                for aim in (Aim(), Cost([1, 2, 3], [[0] * 3] * 3)):
                    check_error(self, BadNumber("aim"), call, EXAMPLE, aim, row)
            for aim in (Ratio(0, 1), Mean([1, 2, 3])):
                check_shares_named(self, lambda row, call=call, aim=aim: call(EXAMPLE, aim, row))
            check_error(self, BadState(1), call, EXAMPLE, Ratio(0, 3), [0, 0, 0])


if __name__ == "__main__":
    unittest.main()
