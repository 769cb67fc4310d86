"""The facts that points 106 to 119 of the document state of share rows, lots, fitting currents and told rates."""

import unittest
from fractions import Fraction

from lastingshares.aims import Mean, Ratio
from lastingshares.between import world_at
from lastingshares.boxes import decided
from lastingshares.chains import Chain
from lastingshares.comings import coming_row
from lastingshares.compared import share_gap
from lastingshares.currents import chain_currents, fitting, is_fitting, scaled_of
from lastingshares.ends import greatest, is_greatest, is_least, least
from lastingshares.errors import BadRow, NotReached
from lastingshares.free import (barred_row, has_closed_row, leaves_open, other_rates, rates_for, shares_tell,
                                stuck_arrow)
from lastingshares.gapping import gap, gap_by_lots, gap_lots
from lastingshares.longs import weighted_longs
from lastingshares.notes import is_scaled, worlds
from lastingshares.papers import bound_row, is_paper, paper
from lastingshares.pushes import push
from lastingshares.reached import is_reached, rates_of_state, world_with
from lastingshares.rings import rings
from lastingshares.rooms import level_lots, room, room_row, rooms, tight_lots
from lastingshares.shapes import is_hanging
from lastingshares.tables import Table
from lastingshares.told import rate_span, tells_rates, told_pairs, two_worlds
from lastingshares.trees import lowest_row, tree_row
from support import CHAINS, NOTES, SHAPES, all_lots, is_share_row_of, share_rows_for, several_rates

FEW = NOTES[:2] + NOTES[2::3]
HEIGHTS = [(0, 0, 0, 0, 0), (3, -1, 4, -1, 5), (1, -2, 3, -1, 0), (4, -1, -1, 0, 2)]


def reached_rows(notes):
    return [row for row in share_rows_for(notes) if is_reached(notes, row)]


def other_rows(notes):
    return [row for row in share_rows_for(notes) if not is_reached(notes, row)]


def added(row, other):
    return tuple(one + two for one, two in zip(row, other))


def crossing(notes, lot):
    """The pairs out of the lot, and those into it."""
    pairs = notes.lows.pairs_of(notes.size)
    return ([(x, y) for x, y in pairs if x in lot and y not in lot],
            [(x, y) for x, y in pairs if x not in lot and y in lot])


class Reached(unittest.TestCase):
    def test_point_106(self):
        for notes in FEW:
            for world in worlds(notes)[::4]:
                self.assertTrue(is_reached(notes, lowest_row(world)))
            wider = notes
            for x, y in notes.lows.pairs_of(notes.size)[::2]:
                low, high = wider.stretch(x, y)
                wider = wider.widen(x, y, low, high + 1)
            for row in share_rows_for(notes):
                self.assertIs(is_reached(notes, row), is_reached(notes, [7 * entry for entry in row]))
                if is_reached(notes, row):
                    self.assertTrue(is_reached(wider, row))
                    self.assertTrue(is_share_row_of(world_with(notes, row)[1], row))

    def test_point_107(self):
        for notes in FEW:
            for world in worlds(notes)[::4]:
                row, lines = chain_currents(world)
                self.assertTrue(is_fitting(notes, row, lines))
                scaled = scaled_of(row, lines)
                self.assertTrue(is_scaled(notes, scaled) and is_share_row_of(scaled[1], row))
                self.assertEqual(scaled[1], world * scaled[0])
            rows = reached_rows(notes)
            for p, q in zip(rows, rows[1:]):
                lines, others = fitting(notes, p), fitting(notes, q)
                both = [added(line, other) for line, other in zip(lines, others)]
                self.assertTrue(is_fitting(notes, added(p, q), both))

    def test_point_107_two_chains(self):
        for chain in CHAINS[::5]:
            row = lowest_row(chain)
            found = other_rates(chain, chain.arrows())[1]
            self.assertEqual([share_gap(chain, found, c) for c in range(chain.size)], [0] * chain.size)
            self.assertTrue(is_share_row_of(chain * 2 + found * 5, row))
            doubled = chain.times(0, 2)
            self.assertNotEqual([share_gap(chain, doubled, c) for c in range(chain.size)], [0] * chain.size)
            self.assertFalse(is_share_row_of(doubled, row))

    def test_point_108(self):
        for notes in FEW:
            for row in share_rows_for(notes):
                self.assertEqual((room(notes, row, []), room(notes, row, list(range(notes.size)))), (0, 0))
                self.assertEqual(tight_lots(notes, row), [lot for lot, number in rooms(notes, row) if number == 0])

    def test_point_109(self):
        seen = set()
        for notes in NOTES:
            for row in share_rows_for(notes):
                found = is_reached(notes, row)
                seen.add(found)
                self.assertIs(found, min(number for _, number in rooms(notes, row)) >= 0)
                self.assertIs(found, fitting(notes, row) is not None)
        self.assertEqual(seen, {True, False})

    def test_point_110(self):
        for notes in FEW:
            for lot in all_lots(notes.size):
                f = room_row(notes, lot)
                self.assertTrue(is_paper(notes, f, 1, [1 if x in lot else 0 for x in range(notes.size)]))
                for row in share_rows_for(notes):
                    self.assertEqual(room(notes, row, lot), sum(one * entry for one, entry in zip(f, row)))
                for world in worlds(notes)[::7]:
                    self.assertGreaterEqual(sum(one * t for one, t in zip(f, tree_row(world))), 0)
            for heights in HEIGHTS:
                f = heights[:notes.size]
                if paper(notes, f) is not None:
                    for row in reached_rows(notes):
                        self.assertGreaterEqual(sum(one * entry for one, entry in zip(f, row)), 0)

    def test_point_111(self):
        for notes in FEW:
            for heights in HEIGHTS:
                h = heights[:notes.size]
                bounds = bound_row(notes, h)
                for row in share_rows_for(notes):
                    self.assertEqual(sum(p * bound for p, bound in zip(row, bounds)),
                                     sum(times * room(notes, row, lot) for lot, times in level_lots(h)))


class Gaps(unittest.TestCase):
    def each_case(self):
        for notes in FEW:
            size = notes.size
            for aim in (Ratio(0, size - 1), Ratio(1, 0), Mean([1] + [0] * (size - 1)), Mean([3, -1, 4, -1, 5][:size])):
                yield notes, aim

    def test_point_112_every_row(self):
        for notes, aim in self.each_case():
            lots = gap_lots(notes, aim)
            for row in share_rows_for(notes):
                self.assertEqual(gap(notes, aim, row), sum(times * room(notes, row, lot) for lot, times in lots))
                self.assertEqual(gap_by_lots(notes, aim, row), gap(notes, aim, row))

    def test_point_112_rows_that_are_reached(self):
        for notes, aim in self.each_case():
            lots = [lot for lot, _ in gap_lots(notes, aim)]
            rows = reached_rows(notes)
            for p, q in zip(rows, rows[1:] + rows[:1]):
                self.assertTrue(all(room(notes, p, lot) >= 0 for lot in lots))
                self.assertIs(gap(notes, aim, p) == 0, all(lot in tight_lots(notes, p) for lot in lots))
                self.assertEqual(gap(notes, aim, added(p, q)), gap(notes, aim, p) + gap(notes, aim, q))
                self.assertIs(gap(notes, aim, added(p, q)) == 0, gap(notes, aim, p) == gap(notes, aim, q) == 0)

    def test_point_112_best_worlds(self):
        for notes, aim in self.each_case():
            lots = [lot for lot, _ in gap_lots(notes, aim)]
            is_best = is_greatest if isinstance(aim, Ratio) else is_least
            for world in worlds(notes)[::3] + [greatest(notes, aim), least(notes, aim)]:
                best = is_best(notes, aim, world)
                self.assertIs(best, gap(notes, aim, lowest_row(world)) == 0)
                ends = [(crossing(notes, lot)) for lot in lots]
                self.assertIs(best, all(world[pair] == notes.lows[pair] for out, _ in ends for pair in out)
                              and all(world[pair] == notes.highs[pair] for _, into in ends for pair in into))
                if best:
                    self.check_multiple(notes, aim, world)
            if isinstance(aim, Ratio):
                high, low, _ = decided(notes, aim)
                for pair in notes:
                    self.assertIs(pair in high, any(pair in crossing(notes, lot)[1] for lot in lots))
                    self.assertIs(pair in low, any(pair in crossing(notes, lot)[0] for lot in lots))

    def check_multiple(self, notes, aim, world):
        """Each other best world gives the same lots, and all times multiplied by one fraction."""
        if isinstance(aim, Ratio):
            found = level_lots(coming_row(world, aim.over, aim.under))
        else:
            found = level_lots(weighted_longs(world, aim.row))
        lots = gap_lots(notes, aim)
        self.assertEqual([lot for lot, _ in found], [lot for lot, _ in lots])
        self.assertLessEqual(len({Fraction(times, other) for (_, times), (_, other) in zip(found, lots)}), 1)

    def test_point_112_pair_by_pair(self):
        for notes, aim in self.each_case():
            if isinstance(aim, Ratio):
                world = greatest(notes, aim)
                for other in worlds(notes)[::5]:
                    sums = tree_row(other)
                    total = sum(sums[a] * abs(other[a, b] - world[a, b]) * abs(push(world, a, b, aim.over, aim.under))
                                for a, b in world.pairs_of(world.size))
                    self.assertEqual(gap(notes, aim, sums), total)


class Tight(unittest.TestCase):
    def test_point_113_unions(self):
        for notes in FEW[::2]:
            lots = all_lots(notes.size)
            for row in share_rows_for(notes)[::2]:
                for one in lots:
                    for other in lots[::2]:
                        union = [x for x in range(notes.size) if x in one or x in other]
                        both = [x for x in one if x in other]
                        left = room(notes, row, union) + room(notes, row, both)
                        right = room(notes, row, one) + room(notes, row, other)
                        self.assertLessEqual(left, right)
                        beside = any((x in one and x not in other and y in other and y not in one)
                                     or (y in one and y not in other and x in other and x not in one)
                                     for x, y in notes)
                        self.assertIs(left == right, not beside)
                    rest = [x for x in range(notes.size) if x not in one]
                    across = sum(row[x] * (notes.highs[x, y] - notes.lows[x, y])
                                 for pairs in crossing(notes, one) for x, y in pairs)
                    self.assertEqual(room(notes, row, one) + room(notes, row, rest), across)

    def test_point_113_tight_lots(self):
        for notes in FEW:
            rows = reached_rows(notes)
            for p, q in zip(rows, rows[1:] + rows[:1]):
                scale, world = world_with(notes, p)
                tight = tight_lots(notes, p)
                for lot in all_lots(notes.size):
                    out, into = crossing(notes, lot)
                    ends = (all(world[pair] == scale * notes.lows[pair] for pair in out)
                            and all(world[pair] == scale * notes.highs[pair] for pair in into))
                    self.assertIs(tuple(lot) in tight, ends)
                    self.assertIs(tuple(lot) in tight_lots(notes, added(p, q)),
                                  tuple(lot) in tight and tuple(lot) in tight_lots(notes, q))
                for one in tight:
                    for other in tight:
                        self.assertEqual(room(notes, p, sorted(set(one) | set(other))), 0)
                        self.assertEqual(room(notes, p, sorted(set(one) & set(other))), 0)

    def test_point_114(self):
        for notes in FEW:
            for row in reached_rows(notes):
                tight = tight_lots(notes, row)
                for x, y in notes.lows.pairs_of(notes.size):
                    low, high = (Fraction(*two) for two in rate_span(notes, row, x, y))
                    scale, world = world_with(notes, row)
                    self.assertTrue(low <= Fraction(world[x, y], scale) <= high)
                    if (x, y) in notes.unseen():
                        self.assertIs(low == notes.highs[x, y], any(x not in lot and y in lot for lot in tight))
                        self.assertIs(high == notes.lows[x, y], any(x in lot and y not in lot for lot in tight))

    def test_point_115(self):
        seen = set()
        for notes in NOTES:
            for row in reached_rows(notes):
                tight = tight_lots(notes, row)
                inner = [(x, y) for x, y in notes if not any((x in lot) != (y in lot) for lot in tight)]
                told = tells_rates(notes, row)
                seen.add(told)
                self.assertIs(told, not has_closed_row(notes.size, inner))
                self.assertIs(told, two_worlds(notes, row) is None)
                self.assertIs(told, told_pairs(notes, row) == notes.unseen())
                for x, y in notes:
                    low, high = rate_span(notes, row, x, y)
                    self.assertIs((x, y) in told_pairs(notes, row), low == high)
        self.assertEqual(seen, {True, False})


class Free(unittest.TestCase):
    def test_point_116(self):
        for shape in SHAPES[::3]:
            chain = several_rates(shape, 3)[2]
            arrows = chain.arrows()
            for chosen in (arrows, arrows[::2], arrows[1::2], arrows[:2], arrows[-3:], []):
                found = other_rates(chain, chosen)
                self.assertIs(shares_tell(chain, chosen), not has_closed_row(chain.size, chosen))
                self.assertIs(found is None, shares_tell(chain, chosen))
                if found is not None:
                    self.assertTrue(is_share_row_of(found[1], lowest_row(chain)))

    def test_point_117(self):
        for shape in SHAPES[::3]:
            chain = several_rates(shape, 3)[1]
            arrows = chain.arrows()
            self.assertTrue(leaves_open(chain, []))
            self.assertFalse(leaves_open(chain, arrows))
            for chosen in (arrows[::2], arrows[1::2], arrows[:2], arrows[-1:], arrows[::3]):
                others = [ring for ring in rings(chain)]
                alone = all(any(self.has(ring, arrow) and not any(self.has(ring, other) for other in chosen
                                                                  if other != arrow) for ring in others)
                            for arrow in chosen)
                self.assertIs(leaves_open(chain, chosen), alone)
                self.assertIs(stuck_arrow(chain, chosen) is None, alone)
                if alone:
                    row = [1 + (3 * x) % 4 for x in range(chain.size)]
                    self.assertTrue(is_share_row_of(rates_for(chain, chosen, row)[1], row))
                else:
                    self.check_barred(chain, chosen)

    def has(self, ring, arrow):
        return arrow in zip(ring, ring[1:] + ring[:1])

    def check_barred(self, chain, chosen):
        """What enters the lot is told: it is less than what leaves it by told arrows alone, whatever the others are."""
        lot, row = barred_row(chain, chosen)
        with self.assertRaises(NotReached):
            rates_for(chain, chosen, row)
        entering = [(x, y) for x, y in chain.arrows() if x not in lot and y in lot]
        self.assertTrue(all(arrow in chosen for arrow in entering))
        into = sum(row[a] * chain[a, b] for a, b in entering)
        self.assertLess(into, sum(row[a] * chain[a, b] for a, b in chosen if a in lot and b not in lot))

    def test_point_117_hanging_chains(self):
        for chain in [chain for chain in SHAPES if is_hanging(chain)]:
            arrows = chain.arrows()
            for mask in range(2 ** len(arrows)):
                chosen = [arrow for place, arrow in enumerate(arrows) if mask >> place & 1]
                single = all(sum(self.has(ring, arrow) for arrow in chosen) < 2 for ring in rings(chain))
                self.assertIs(leaves_open(chain, chosen), single)

    def test_point_118(self):
        for chain in CHAINS[::4]:
            row = lowest_row(chain)
            for x in range(chain.size):
                self.assertEqual(rates_of_state(chain, x, row), tuple((rate, 1) for rate in chain.rows[x]))
        many = 0
        for notes in NOTES:
            tails = {x for x, _ in notes}
            if len(tails) != 1:
                continue
            x = tails.pop()
            for row in share_rows_for(notes):
                rates = rates_of_state(notes.highs, x, row)
                fits = rates is not None and all(
                    notes.lows.rows[x][b] <= Fraction(*rate) <= notes.highs.rows[x][b]
                    for b, rate in enumerate(rates))
                self.assertIs(is_reached(notes, row), fits)
                many += 1
        self.assertGreater(many, 10)

    def test_notes_and_rows_never_change(self):
        for notes in FEW:
            before = (notes.lows.rows, notes.highs.rows, notes.unseen())
            for row in map(list, share_rows_for(notes)):
                kept = list(row)
                for call in (rooms, tight_lots, fitting, is_reached, world_with):
                    call(notes, row)
                if is_reached(notes, row):
                    for call in (told_pairs, tells_rates, two_worlds):
                        call(notes, row)
                    rate_span(notes, row, 0, 1)
                self.assertEqual(row, kept)
            for aim in (Ratio(0, 1), Mean(list(range(notes.size)))):
                gap_lots(notes, aim)
                world_at(notes, aim, 1, 1)
            self.assertEqual((notes.lows.rows, notes.highs.rows, notes.unseen()), before)

    def test_point_119(self):
        notes = NOTES[1]
        for call in (rooms, fitting, is_reached, world_with, told_pairs, tells_rates, two_worlds):
            with self.assertRaises(BadRow):
                call(notes, [1, 0, 1])
        for call in (told_pairs, tells_rates, two_worlds):
            for row in other_rows(notes):
                with self.assertRaises(NotReached) as caught:
                    call(notes, row)
                self.assertLess(room(notes, row, caught.exception.lot), 0)
        for scaled in (world_with(notes, lowest_row(notes.highs)), world_at(notes, Ratio(0, 1), 1, 1)):
            self.assertEqual((type(scaled), type(scaled[1])), (tuple, Chain))
            self.assertTrue(isinstance(scaled[1], Table) and is_scaled(notes, scaled))


if __name__ == "__main__":
    unittest.main()
