"""The facts that points 91 to 96, 98, 100 and 101 of the document state of rates between bounds."""

import unittest
from fractions import Fraction
from itertools import permutations

from lastingshares.aims import Cost, Mean, Ratio, of_scaled
from lastingshares.boxes import box, decided, grows_high, grows_low
from lastingshares.chains import is_joined
from lastingshares.comings import chance_row, coming_row, pair_sum
from lastingshares.ends import better, ends_of, greatest, is_greatest, is_least, least
from lastingshares.longs import long_row, time_row
from lastingshares.notes import Notes, corners, is_scaled, worlds
from lastingshares.papers import against, at_least, bound_row, is_paper, paper, ratio_paper
from lastingshares.pushes import mean_push, push
from lastingshares.tables import Table
from lastingshares.trees import drift, tree_row, tree_total
from lastingshares.walks import is_gate
from support import CHAINS, MIXED, NOTES, aims_for, complete

FEW = NOTES[:2] + NOTES[2::3]
ROWS = [(0, 0, 0, 0, 0), (3, -1, 4, -1, 5), (1, -2, 3, -1, 0), (4, -1, -1, 0, 2)]


def number_of(two):
    return Fraction(*two)


def each_case(chosen=FEW):
    for notes in chosen:
        for aim in aims_for(notes.size):
            yield notes, aim


def costs_for(size):
    return [[0 if x == y else (3 * x + 5 * y) % 7 - 2 for y in range(size)] for x in range(size)]


def heights_for(aim, table):
    """The sum over all c of g_c * M(x,c), with g as in point 93."""
    costs = aim.costs if isinstance(aim, Cost) else [[0] * table.size] * table.size
    g = [f + sum(k * r for k, r in zip(line, rates)) for f, line, rates in zip(aim.row, costs, table.rows)]
    longs = [long_row(table, c) for c in range(table.size)]
    return tuple(sum(entry * row[x] for entry, row in zip(g, longs)) for x in range(table.size))


class Worlds(unittest.TestCase):
    def test_point_91(self):
        for notes in NOTES:
            found = worlds(notes)
            number = 1
            for pair in notes.lows.pairs_of(notes.size):
                low, high = notes.stretch(*pair)
                self.assertTrue(0 <= low <= high)
                self.assertIs(pair in notes.unseen(), low != high)
                self.assertIs(pair in notes.shape(), high >= 1)
                number *= high - low + 1
            self.assertEqual(len(found), number)
            for world in found:
                self.assertTrue(notes.agrees(world) and is_joined(world))
                self.assertTrue(is_scaled(notes, (1, world)) and is_scaled(notes, (7, world * 7)))
            self.assertEqual([world.rows for world in found], sorted(world.rows for world in found))
            self.assertEqual(len(corners(notes)), 2 ** len(notes))
            self.assertTrue(all(world in found for world in corners(notes)))

    def test_point_92(self):
        for table in MIXED[::2] + CHAINS[::9]:
            row = tree_row(table)
            for aim in aims_for(table.size):
                if isinstance(aim, Ratio):
                    expected = (row[aim.over], row[aim.under])
                else:
                    u = sum(f * t for f, t in zip(aim.row, row))
                    if isinstance(aim, Cost):
                        u += sum(aim.costs[x][y] * row[x] * table[x, y] for x, y in table)
                    expected = (u, sum(row))
                self.assertEqual(aim.pair_in(table), expected)

    def test_point_92_scaled_worlds(self):
        for chain in CHAINS[::9]:
            for aim in aims_for(chain.size):
                for scale in (1, 5):
                    self.assertEqual(of_scaled(aim, (scale, chain * scale)), aim(chain))
                if not isinstance(aim, Cost):
                    self.assertEqual(of_scaled(aim, (5, chain)), aim(chain))

    def test_point_93_pushes(self):
        for table in MIXED[::3] + CHAINS[::9]:
            for aim in aims_for(table.size):
                for a, b in table.pairs_of(table.size):
                    found = aim.push_at(table, a, b)
                    if isinstance(aim, Ratio):
                        self.assertEqual(found, push(table, a, b, aim.over, aim.under))
                    elif isinstance(aim, Mean):
                        self.assertEqual(found, mean_push(table, a, b, aim.row))
                    for rate in (0, 9):
                        self.assertEqual(aim.push_at(Table(table.rows).with_rate(a, b, rate), a, b), found)

    def test_point_93_two_tables(self):
        tables = [table for table in MIXED if table.size in (3, 4)] + [table for table in MIXED if table.size == 5]
        for old, new in zip(tables, tables[1:]):
            if old.size != new.size:
                continue
            after = tree_row(new)
            for aim in aims_for(old.size):
                (u, v), (new_u, new_v) = aim.pair_in(old), aim.pair_in(new)
                total = sum(after[a] * (new[a, b] - old[a, b]) * aim.push_at(old, a, b)
                            for a, b in old.pairs_of(old.size))
                self.assertEqual(new_u * v - u * new_v, total)


class Ends(unittest.TestCase):
    def test_point_94(self):
        for notes, aim in each_case():
            low, high = map(number_of, ends_of(notes, aim))
            for world in worlds(notes)[::3]:
                number = number_of(aim(world))
                self.assertTrue(low <= number <= high)
                pushes = {pair: aim.push_at(world, *pair) for pair in notes}
                fits = all(world[pair] == notes.stretch(*pair)[pushes[pair] > 0] for pair in notes if pushes[pair])
                self.assertIs(is_greatest(notes, aim, world), fits)
                self.assertIs(is_greatest(notes, aim, world), number == high)
                self.assertIs(is_least(notes, aim, world), number == low)
                self.assertIs(better(notes, aim, world) is None, fits)
                if not fits:
                    # All at once: this, too, gives a greater fraction.
                    moved = world
                    for pair in notes:
                        if pushes[pair]:
                            moved = moved.with_rate(*pair, notes.stretch(*pair)[pushes[pair] > 0])
                    self.assertGreater(number_of(aim(moved)), number)

    def test_point_94_scaled_worlds_lie_between(self):
        for notes, aim in each_case():
            low, high = map(number_of, ends_of(notes, aim))
            found = worlds(notes)
            for world, other in zip(found, found[::-1]):
                scaled = (2, world + other)
                self.assertTrue(is_scaled(notes, scaled))
                self.assertTrue(low <= number_of(of_scaled(aim, scaled)) <= high)

    def test_point_94_one_unseen_pair(self):
        many = 0
        for notes in [notes for notes in NOTES if len(notes) == 1]:
            for aim in aims_for(notes.size):
                self.assertEqual(len({aim.push_at(world, *notes.unseen()[0]) for world in worlds(notes)}), 1)
                many += 1
        self.assertGreater(many, 0)

    def test_point_95(self):
        for notes, aim in each_case():
            high, low, free = decided(notes, aim)
            found = [world for world in worlds(notes) if is_greatest(notes, aim, world)]
            self.assertEqual(found, worlds(box(notes, aim)))
            number = 1
            for pair in free:
                number *= notes.stretch(*pair)[1] - notes.stretch(*pair)[0] + 1
            self.assertEqual(len(found), number)
            alike = len({aim(world) for world in worlds(notes)}) == 1
            self.assertIs(alike, all(aim.push_at(notes.lows, *pair) == 0 for pair in notes))
            for pair in notes.lows.pairs_of(notes.size):
                unit = {Fraction(aim.push_at(world, *pair), self.unit(aim, world)) for world in found[::5]}
                self.assertEqual(len(unit), 1)

    def unit(self, aim, world):
        return pair_sum(world, aim.over, aim.under) if isinstance(aim, Ratio) else tree_total(world)

    def test_point_95_ratios(self):
        for notes in FEW:
            for c, e in notes.lows.pairs_of(notes.size):
                aim = Ratio(c, e)
                high, low, free = decided(notes, aim)
                chances = {chance_row(world, c, e) for world in worlds(box(notes, aim))[::5]}
                self.assertEqual(len(chances), 1)
                row = [number_of(two) for two in chances.pop()]
                for a, b in notes:
                    self.assertIs((a, b) in high, row[b] > row[a])
                    self.assertIs((a, b) in low, row[b] < row[a])
                    self.assertIs((a, b) in free, row[b] == row[a])

    def test_point_95_shares(self):
        for notes in FEW:
            for c in range(notes.size):
                aim = Mean([1 if x == c else 0 for x in range(notes.size)])
                high, low, free = decided(notes, aim)
                times = {time_row(world, c) for world in worlds(box(notes, aim))[::5]}
                self.assertEqual(len(times), 1)
                row = [number_of(two) for two in times.pop()]
                for a, b in notes:
                    self.assertIs((a, b) in high, row[b] < row[a])
                    self.assertIs((a, b) in low, row[b] > row[a])
                    if is_gate(notes.shape(), a, b, c):
                        self.assertIn((a, b), high)

    def test_point_96_single_steps(self):
        for notes, aim in each_case(NOTES[2::9]):
            before = number_of(ends_of(notes, aim)[1])
            world = greatest(notes, aim)
            for x, y in notes.lows.pairs_of(notes.size):
                low, high = notes.stretch(x, y)
                found = number_of(ends_of(notes.widen(x, y, low, high + 1), aim)[1])
                self.assertGreaterEqual(found, before)
                self.assertIs(grows_high(notes, aim, x, y), found > before)
                self.assertIs(grows_high(notes, aim, x, y), aim.push_at(world, x, y) > 0)
                if low > 0 and is_joined(Table(notes.lows.rows).with_rate(x, y, low - 1)):
                    found = number_of(ends_of(notes.widen(x, y, low - 1, high), aim)[1])
                    self.assertGreaterEqual(found, before)
                    self.assertIs(grows_low(notes, aim, x, y), found > before)

    def test_point_96_narrower_stretches(self):
        for notes, aim in each_case(NOTES[2::5]):
            high, low, free = decided(notes, aim)
            before = number_of(ends_of(notes, aim)[1])
            for x, y in notes:
                bottom, top = notes.stretch(x, y)
                for rate in range(bottom, top + 1):
                    found = number_of(ends_of(notes.ask(x, y, rate), aim)[1])
                    self.assertLessEqual(found, before)
                    if (x, y) in free:
                        self.assertEqual(found, before)
                    if (x, y) in high:
                        self.assertIs(found < before, rate < top)
                    if (x, y) in low:
                        self.assertIs(found < before, rate > bottom)


class SeveralAims(unittest.TestCase):
    def test_point_98_turned_ratios_and_means(self):
        for notes in FEW:
            for c, e in notes.lows.pairs_of(notes.size):
                low, high = ends_of(notes, Ratio(c, e))
                self.assertEqual(ends_of(notes, Ratio(e, c)), (high[::-1], low[::-1]))
                self.assertTrue(is_greatest(notes, Ratio(e, c), least(notes, Ratio(c, e))))
            for row in ROWS:
                f = row[:notes.size]
                opposite = Mean([-entry for entry in f])
                low, high = ends_of(notes, Mean(f))
                self.assertEqual(ends_of(notes, opposite), ((-high[0], high[1]), (-low[0], low[1])))
                self.assertTrue(is_greatest(notes, opposite, least(notes, Mean(f))))
                more = Mean([entry + 7 for entry in f])
                self.assertEqual(list(map(number_of, ends_of(notes, more))), [number_of(low) + 7, number_of(high) + 7])
                for pair in notes.lows.pairs_of(notes.size):
                    self.assertEqual(more.push_at(notes.lows, *pair), Mean(f).push_at(notes.lows, *pair))

    def test_point_98_three_states(self):
        equal = set()
        for notes in FEW:
            for c, e, g in permutations(range(notes.size), 3):
                first, second = Ratio(c, e), Ratio(e, g)
                most = [number_of(ends_of(notes, aim)[1]) for aim in (first, second, Ratio(c, g))]
                self.assertLessEqual(most[2], most[0] * most[1])
                high, low, _ = decided(notes, first)
                other_high, other_low, _ = decided(notes, second)
                clash = set(high) & set(other_low) or set(low) & set(other_high)
                self.assertIs(most[2] == most[0] * most[1], not clash)
                equal.add(not clash)
        self.assertEqual(equal, {True, False})

    def test_point_98_shares_and_ratios(self):
        for notes in FEW:
            states = range(notes.size)
            shares = [Mean([1 if x == c else 0 for x in states]) for c in states]
            for world in worlds(notes)[::4]:
                for c in states:
                    if all(is_greatest(notes, Ratio(c, e), world) for e in states if e != c):
                        self.assertTrue(is_greatest(notes, shares[c], world))
                    for e in states:
                        if e != c and is_greatest(notes, shares[c], world) and is_least(notes, shares[e], world):
                            self.assertTrue(is_greatest(notes, Ratio(c, e), world))
                        if (c, e) in notes.unseen():
                            both = is_greatest(notes, shares[c], world) and is_greatest(notes, shares[e], world)
                            self.assertFalse(both)


class Papers(unittest.TestCase):
    def test_point_100_bounds(self):
        for notes in FEW:
            for row in ROWS:
                heights = row[:notes.size]
                bounds = bound_row(notes, heights)
                for world in worlds(notes)[::3]:
                    moved = drift(world, heights)
                    self.assertTrue(all(one <= bound for one, bound in zip(moved, bounds)))
                    sums = tree_row(world)
                    self.assertEqual(sum(t * one for t, one in zip(sums, moved)), 0)
                    self.assertGreaterEqual(sum(t * bound for t, bound in zip(sums, bounds)), 0)

    def test_point_100_papers(self):
        for notes in FEW:
            for costs in (None, costs_for(notes.size)):
                for row in ROWS:
                    f = row[:notes.size]
                    aim = Mean(f) if costs is None else Cost(f, costs)
                    found, world = paper(notes, f, costs=costs), against(notes, f, costs=costs)
                    self.assertIs(found is None, world is not None)
                    sums = [aim.pair_in(one)[0] for one in worlds(notes)]
                    self.assertIs(found is not None, min(sums) >= 0)
                    if found is None:
                        self.assertTrue(notes.agrees(world) and aim.pair_in(world)[0] < 0)
                    else:
                        self.assertTrue(is_paper(notes, f, *found, costs=costs))

    def test_point_100_least_worlds(self):
        for notes, aim in each_case():
            if isinstance(aim, Ratio):
                continue
            world = least(notes, aim)
            total, below = tree_total(world), aim.pair_in(world)[0]
            heights = heights_for(aim, world)
            costs = aim.costs if isinstance(aim, Cost) else None
            bounds = bound_row(notes, heights, scale=total, costs=costs)
            self.assertEqual([total * f - bound for f, bound in zip(aim.row, bounds)], [below] * notes.size)
            self.assertIs(is_paper(notes, aim.row, total, heights, costs=costs), below >= 0)

    def test_point_101(self):
        for notes in FEW:
            for c, e in notes.lows.pairs_of(notes.size):
                u, v, heights = ratio_paper(notes, c, e)
                bounds = [0] * notes.size
                bounds[e], bounds[c] = u, -v
                self.assertEqual(bound_row(notes, heights), tuple(bounds))
                for world in worlds(notes)[::3]:
                    sums = tree_row(world)
                    self.assertLessEqual(v * sums[c], u * sums[e])
                    self.assertIs(v * sums[c] == u * sums[e], is_greatest(notes, Ratio(c, e), world))
                shown = [coming_row(world, c, e) for world in worlds(box(notes, Ratio(c, e)))]
                self.assertIn(heights, shown)
                # The other way round: the least ratio of e and c is v : u.
                self.assertTrue(at_least(notes, e, c, v, u))
                self.assertFalse(at_least(notes, e, c, v * 1000 + 1, u * 1000))

    def test_eight_states(self):
        notes = Notes.around(complete(8) * 10 ** 11, 10 ** 11 - 1, 9 * 10 ** 11)
        row = [10 ** 12, -10 ** 12, 5, 0, 0, -7, 1, 1]
        for aim in (Mean(row), Cost(row, costs_for(8)), Ratio(6, 2)):
            low, high = least(notes, aim), greatest(notes, aim)
            for world, wanted in ((low, 0), (high, 1)):
                for pair in notes:
                    push_at = aim.push_at(world, *pair)
                    if push_at:
                        self.assertEqual(world[pair], notes.stretch(*pair)[(push_at > 0) == wanted])
        u, v, heights = ratio_paper(notes, 6, 2)
        self.assertEqual(bound_row(notes, heights), (0, 0, u, 0, 0, 0, -v, 0))
        for costs in (None, costs_for(8)):
            found = paper(notes, row, costs=costs)
            self.assertIs(found is None, against(notes, row, costs=costs) is not None)
            self.assertTrue(found is None or is_paper(notes, row, *found, costs=costs))


if __name__ == "__main__":
    unittest.main()
