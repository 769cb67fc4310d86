"""lastingshares.papers: bound rows, papers, worlds against a row, papers of ratios."""

import unittest
from fractions import Fraction

from lastingshares.aims import Cost, Mean, Ratio
from lastingshares.chains import Chain
from lastingshares.ends import ends_of
from lastingshares.errors import BadCosts, BadNumber, BadRow
from lastingshares.notes import Notes
from lastingshares.papers import against, at_least, bound_row, is_paper, paper, ratio_paper
from support import (NOTES, check_costs_named, check_error, check_numbers_named, check_rows_named, check_states_named,
                     complete, slow_pair, slow_row, slow_trees_of, slow_worlds)

EXAMPLE = Notes([[0, 2, 0], [1, 0, 1], [4, 0, 0]], [[0, 2, 0], [1, 0, 5], [4, 0, 0]])
GREAT = Notes(Chain.around([1] * 8).rows, [[0 if x == y else 10 ** 12 - 9 * x - y for y in range(8)] for x in range(8)])
ROWS = [(0, 0, 0, 0, 0), (1, -2, 3, -1, 0), (4, -1, -1, 0, 2), (-1, 0, 0, 0, 0), (2, 2, 2, 2, 2), (-3, 8, -3, 1, -2)]


def costs_for(size, turn):
    """Costs of either sign; None, which stands for costs that are all 0; and costs that are all 0."""
    if turn % 3 == 2:
        return None
    if turn % 3 == 1:
        return [[0] * size] * size
    return [[0 if x == y else (3 * x + 5 * y + turn) % 7 - 2 for y in range(size)] for x in range(size)]


def slow_bound_row(notes, heights, scale, costs):
    bounds = []
    for x in range(notes.size):
        total = 0
        for y in range(notes.size):
            if y != x:
                rise = heights[y] - heights[x] - (scale * costs[x][y] if costs else 0)
                total += max(notes.lows.rows[x][y] * rise, notes.highs.rows[x][y] * rise)
        bounds.append(total)
    return tuple(bounds)


def slow_total(world, row, costs):
    return slow_pair(Cost(row, costs) if costs else Mean(row), world)[0]


class BoundRows(unittest.TestCase):
    def test_each_row(self):
        for turn, notes in enumerate(NOTES):
            costs = costs_for(notes.size, turn)
            for row in ROWS:
                heights = list(row[:notes.size])
                self.assertEqual(bound_row(notes, heights), slow_bound_row(notes, heights, 1, None))
                self.assertEqual(bound_row(notes, tuple(heights), scale=3, costs=costs),
                                 slow_bound_row(notes, heights, 3, costs))
                self.assertEqual(heights, list(row[:notes.size]))

    def test_edges(self):
        self.assertEqual(bound_row(EXAMPLE, [4, 0, 4]), (-8, 24, 0))
        self.assertIs(type(bound_row(EXAMPLE, [4, 0, 4])), tuple)
        self.assertEqual(bound_row(GREAT, [7] * 8), (0,) * 8)
        # Without rises the costs alone count: the low of a cost, the high of a gain.
        costs = [[0, 1, -1], [0, 0, -2], [3, 0, 0]]
        self.assertEqual(bound_row(EXAMPLE, [5, 5, 5], costs=costs), (-2, 10, -12))
        self.assertEqual(bound_row(EXAMPLE, [5, 5, 5], scale=10, costs=costs), (-20, 100, -120))
        self.assertEqual(bound_row(EXAMPLE, [0, 10 ** 12, -10 ** 12]), (2 * 10 ** 12, -3 * 10 ** 12, 4 * 10 ** 12))

    def test_errors(self):
        for named in ({}, {"scale": 0}, {"scale": True, "costs": []}, {"costs": 5}):
            check_rows_named(self, lambda heights, named=named: bound_row(EXAMPLE, heights, **named))
        for costs in (None, [], [[0] * 3] * 3):
            check_numbers_named(self, "scale", lambda scale, costs=costs:
                                bound_row(EXAMPLE, [1, 2, 3], scale=scale, costs=costs), least=1)
        check_costs_named(self, lambda costs: bound_row(EXAMPLE, [1, 2, 3], costs=costs))


class Papers(unittest.TestCase):
    def each_case(self):
        for turn, notes in enumerate(NOTES):
            costs = costs_for(notes.size, turn)
            for row in ROWS:
                yield notes, list(row[:notes.size]), costs

    def test_there_is_one_exactly_if_no_sum_is_below_0(self):
        found = set()
        for notes, row, costs in self.each_case():
            least = min(slow_total(world, row, costs) for world in slow_worlds(notes))
            shown = paper(notes, row, costs=costs)
            world = against(notes, tuple(row), costs=costs)
            found.add(least >= 0)
            if least >= 0:
                scale, heights = shown
                self.assertEqual((type(shown), type(heights), type(scale)), (tuple, tuple, int))
                self.assertGreaterEqual(scale, 1)
                bounds = slow_bound_row(notes, heights, scale, costs)
                self.assertTrue(all(bound <= scale * entry for bound, entry in zip(bounds, row)))
                self.assertIs(is_paper(notes, row, scale, heights, costs=costs), True)
                self.assertIsNone(world)
            else:
                self.assertIsNone(shown)
                self.assertIs(type(world), Chain)
                self.assertTrue(notes.agrees(world))
                self.assertLess(slow_total(world, row, costs), 0)
        self.assertEqual(found, {True, False})

    def test_what_is_a_paper(self):
        found = set()
        for notes, row, costs in self.each_case():
            for heights in ([0] * notes.size, list(range(notes.size)), [3, 1, -2, 0, 1][:notes.size]):
                for scale in (1, 4):
                    bounds = slow_bound_row(notes, heights, scale, costs)
                    expected = all(bound <= scale * entry for bound, entry in zip(bounds, row))
                    self.assertIs(is_paper(notes, row, scale, heights, costs=costs), expected)
                    found.add(expected)
        self.assertEqual(found, {True, False})

    def test_edges(self):
        self.assertIs(is_paper(EXAMPLE, [-8, 24, 0], 1, (4, 0, 4)), True)
        self.assertIs(is_paper(EXAMPLE, [-8, 23, 0], 1, (4, 0, 4)), False)
        self.assertIs(is_paper(EXAMPLE, [-4, 12, 0], 2, [4, 0, 4]), True)
        self.assertIs(is_paper(EXAMPLE, [-4, 12, -1], 2, [4, 0, 4]), False)
        self.assertIs(is_paper(EXAMPLE, [0, 0, 0], 1, [7, 7, 7]), True)
        self.assertIsNone(paper(EXAMPLE, [-1, 0, 0]))
        self.assertIsNone(against(GREAT, [0] * 8))
        scale, heights = paper(GREAT, [0] * 8)
        self.assertIs(is_paper(GREAT, [0] * 8, scale, heights), True)
        row, costs = [10 ** 12] + [-1] * 7, [[0 if x == y else x - y for y in range(8)] for x in range(8)]
        self.assertIs(GREAT.agrees(against(GREAT, row)), True)
        self.assertIs(GREAT.agrees(against(GREAT, row, costs=costs)), True)
        row = [10 ** 12 * (x + 1) for x in range(8)]
        self.assertIs(is_paper(GREAT, row, *paper(GREAT, row)), True)

    def test_the_scale_is_an_integer(self):
        for costs in (None, [], [[0] * 3] * 3):
            for heights in ([1, 2, 3], None):
                check_numbers_named(self, "scale", lambda scale, costs=costs, heights=heights:
                                    is_paper(EXAMPLE, [1, 2, 3], scale, heights, costs=costs), least=1)

    def test_errors(self):
        for named in ({}, {"costs": []}):
            for call in (paper, against):
                check_rows_named(self, lambda row, call=call, named=named: call(EXAMPLE, row, **named))
            check_rows_named(self, lambda row, named=named: is_paper(EXAMPLE, row, 1, [1, 2, 3], **named))
            check_rows_named(self, lambda row, named=named: is_paper(EXAMPLE, row, 0, None, **named))
            check_rows_named(self, lambda heights, named=named: is_paper(EXAMPLE, [1, 2, 3], 1, heights, **named))
        for call in (paper, against):
            check_costs_named(self, lambda costs, call=call: call(EXAMPLE, [1, 2, 3], costs=costs))
        check_costs_named(self, lambda costs: is_paper(EXAMPLE, [1, 2, 3], 1, [0, 0, 0], costs=costs))
        check_error(self, BadRow(0), is_paper, EXAMPLE, [True, 1, 1], 0, None, costs=3)
        check_error(self, BadNumber("scale"), is_paper, EXAMPLE, [1, 1, 1], 0, None, costs=3)
        check_error(self, BadRow(-1), is_paper, EXAMPLE, [1, 1, 1], 1, None, costs=3)
        check_error(self, BadCosts(-1, -1), is_paper, EXAMPLE, [1, 1, 1], 1, (0, 0, 0), costs=3)


class Ratios(unittest.TestCase):
    def test_papers_of_ratios(self):
        for notes in NOTES:
            found = slow_worlds(notes)
            for c, e in notes.lows.pairs_of(notes.size)[::2]:
                shown = ratio_paper(notes, c, e)
                fractions = [Fraction(*slow_pair(Ratio(c, e), world)) for world in found]
                fitting = []
                for world, number in zip(found, fractions):
                    if number == max(fractions):
                        sums = slow_trees_of(world)
                        fitting.append((sums[c], sums[e], slow_row(world, [c, e], c)))
                self.assertIn(shown, fitting)
                self.assertEqual((type(shown), type(shown[2])), (tuple, tuple))

    def test_edges(self):
        self.assertEqual(ratio_paper(EXAMPLE, 0, 1), (24, 8, (4, 0, 4)))
        u, v, heights = ratio_paper(GREAT, 0, 7)
        self.assertEqual(Fraction(u, v), Fraction(*ends_of(GREAT, Ratio(0, 7))[1]))
        self.assertEqual(bound_row(GREAT, heights), (-v, 0, 0, 0, 0, 0, 0, u))
        self.assertEqual(ratio_paper(Notes.of_world(complete(2)), 1, 0), (1, 1, (0, 1)))

    def test_bounds_of_ratios(self):
        for notes in NOTES:
            found = slow_worlds(notes)
            for c, e in notes.lows.pairs_of(notes.size)[1::2]:
                least = min(Fraction(*slow_pair(Ratio(c, e), world)) for world in found)
                for u, v in ((least.numerator, least.denominator), (1, 1), (1, 3), (7, 2), (4, 6),
                             (least.numerator * 99 + 1, least.denominator * 99),
                             (least.numerator * 2, least.denominator * 2),
                             (least.numerator * 99, least.denominator * 99 + 1)):
                    self.assertIs(at_least(notes, c, e, u, v), least >= Fraction(u, v))

    def test_great_bounds(self):
        low = ends_of(GREAT, Ratio(3, 0))[0]
        self.assertIs(at_least(GREAT, 3, 0, *low), True)
        self.assertIs(at_least(GREAT, 3, 0, low[0] * 10 + 1, low[1] * 10), False)
        self.assertIs(at_least(EXAMPLE, 0, 1, 1, 1), True)
        self.assertIs(at_least(EXAMPLE, 0, 1, 10 ** 12 + 1, 10 ** 12), False)

    def test_errors(self):
        check_states_named(self, lambda table, c, e: ratio_paper(EXAMPLE, c, e), EXAMPLE.lows, (0, 1), same=((0, 1),))
        for u, v in ((1, 1), (0, True)):
            check_states_named(self, lambda table, *args: at_least(EXAMPLE, *args), EXAMPLE.lows, (0, 1, u, v),
                               same=((0, 1),), at=(0, 1))
        for v in (1, 0):
            check_numbers_named(self, "u", lambda u, v=v: at_least(EXAMPLE, 0, 1, u, v), least=1)
        check_numbers_named(self, "v", lambda v: at_least(EXAMPLE, 0, 1, 1, v), least=1)


if __name__ == "__main__":
    unittest.main()
