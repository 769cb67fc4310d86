"""The facts that points 121 to 135 of the document state of rings: passings, heights, visits, steps, turned tables."""

import unittest
from fractions import Fraction

from lastingshares.aims import Cost
from lastingshares.carried import current_rows, ring_parts, ring_sums
from lastingshares.currents import fitting
from lastingshares.ends import ends_of
from lastingshares.heights import even_heights, low_ring, ring_heights, sum_rates, sum_verdict
from lastingshares.notes import Notes
from lastingshares.often import pass_verdict, ring_without, visit_span, visit_verdict
from lastingshares.papers import bound_row, is_paper
from lastingshares.passings import (counting, pass_sum, ring_passes, steps_from, steps_into, visit_row, visits)
from lastingshares.pushes import push
from lastingshares.reached import is_reached
from lastingshares.rings import ring_cost, rings, rings_with
from lastingshares.shapes import is_hanging
from lastingshares.stepping import rates_with_mean, ring_means, round_cost, round_mean, step_mean
from lastingshares.sums import forest_row
from lastingshares.tables import Table
from lastingshares.trees import tree_row
from lastingshares.turned import current_table, is_balanced, is_even, net, net_verdict, of_rings
from support import (CHAINS, MIXED, NOTES, SHAPES, all_lots, costs_for, ring_arrows, several_rates, shape_of,
                     share_rows_for, sign)

WORDS = {(False, False): "still", (True, False): "above", (False, True): "below", (True, True): "mixed"}
SIGNS = {"above": (1,), "below": (-1,), "still": (0,), "mixed": (-1, 0, 1)}
FEW = SHAPES[:19] + SHAPES[19:80:4] + SHAPES[80::6]


def ones(size):
    return counting(size, Table.pairs_of(size))


def each_case(chosen=FEW):
    for place, chain in enumerate(chosen):
        for turn in range(5):
            yield chain, costs_for(chain.size, place + turn)


def taken(costs, other):
    return [[one - two for one, two in zip(line, row)] for line, row in zip(costs, other)]


def rings_of(table):
    """The rings that the table goes along, each with its weight: rings are taken away until nothing is left."""
    rows = [list(row) for row in table.rows]
    found = []
    while any(any(row) for row in rows):
        ring = [next(x for x, row in enumerate(rows) if any(row))]
        while ring.count(ring[-1]) == 1:
            ring.append(next(y for y, rate in enumerate(rows[ring[-1]]) if rate))
        ring = ring[ring.index(ring[-1]):-1]
        weight = min(rows[x][y] for x, y in zip(ring, ring[1:] + ring[:1]))
        for x, y in zip(ring, ring[1:] + ring[:1]):
            rows[x][y] -= weight
        found.append((ring, weight))
    return found


class Passings(unittest.TestCase):
    def test_points_121_and_122(self):
        for place, table in enumerate(MIXED + CHAINS[::4]):
            for turn in range(5):
                costs = costs_for(table.size, place + turn)
                found = ring_passes(table, costs)
                self.assertEqual([(ring, number) for ring, _, number in found], ring_sums(table))
                self.assertEqual(pass_sum(table, costs), sum(cost * number for _, cost, number in found))
                rows = current_rows(table)
                self.assertEqual(pass_sum(table, costs), sum(costs[x][y] * rows[x][y] for x, y in table))
            self.assertEqual(pass_sum(table, costs_for(table.size, 2)), 0)

    def test_points_123_and_124(self):
        for chain, costs in each_case():
            word = sum_verdict(chain, costs)
            below = any(ring_cost(costs, ring) < 0 for ring in rings(chain))
            above = any(ring_cost(costs, ring) > 0 for ring in rings(chain))
            self.assertEqual(word, WORDS[above, below])
            for wanted in (1, 0, -1):
                found = sum_rates(chain, costs, wanted)
                self.assertIs(found is not None, wanted in SIGNS[word])
                self.assertTrue(found is None or sign(pass_sum(found, costs)) == wanted)

    def test_point_125(self):
        for chain, costs in each_case():
            heights, even = ring_heights(chain, costs), even_heights(chain, costs)
            self.assertIs(heights is None, low_ring(chain, costs) is not None)
            self.assertIs(even is None, any(ring_cost(costs, ring) for ring in rings(chain)))
            if heights is not None:
                self.assertEqual(heights[0], 0)
                self.assertTrue(all(costs[a][b] >= heights[b] - heights[a] for a, b in chain))
            if even is not None:
                self.assertEqual((even[0], even), (0, heights))
                self.assertTrue(all(costs[a][b] == even[b] - even[a] for a, b in chain))

    def test_point_126(self):
        for table in MIXED + CHAINS[::4]:
            for x in range(table.size):
                number = visits(table, x)
                self.assertEqual(number, tree_row(table)[x] * table.out_of(x))
                self.assertEqual(number, pass_sum(table, steps_from(table.size, x)))
                self.assertEqual(number, pass_sum(table, steps_into(table.size, x)))
        for chain in FEW:
            found = rings(chain)
            for x, y in chain.pairs_of(chain.size):
                word = visit_verdict(chain, x, y)
                self.assertIs(word in ("above", "still"), all(x in ring for ring in found if y in ring))
                self.assertIs(word == "still", all((x in ring) == (y in ring) for ring in found))
                self.assertEqual(word, sum_verdict(chain, taken(steps_from(chain.size, x), steps_from(chain.size, y))))
                self.assertIs(ring_without(chain, y, x) is None, word in ("above", "still"))

    def test_point_127(self):
        for chain in FEW:
            arrows = chain.arrows()
            for f in arrows[::2]:
                for g in arrows:
                    least = all(f in ring_arrows(ring) for ring in rings_with(chain, *g))
                    self.assertIs(pass_verdict(chain, [f], [g]) in ("above", "still"), least)
            for first, second in ((arrows[::2], arrows[1::2]), (arrows[:3], arrows[2:5]), (arrows[1:], arrows[:-1])):
                costs = taken(counting(chain.size, first), counting(chain.size, second))
                self.assertEqual(pass_verdict(chain, first, second), sum_verdict(chain, costs))
                for ring in rings(chain):
                    steps = ring_arrows(ring)
                    self.assertEqual(ring_cost(costs, ring), len([arrow for arrow in steps if arrow in first])
                                     - len([arrow for arrow in steps if arrow in second]))

    def test_point_128(self):
        for chain in FEW:
            tables = [visit_row(rates) for rates in several_rates(chain, 4)]
            for x, y in chain.pairs_of(chain.size):
                low, high = visit_span(chain, x, y)
                self.assertEqual(low, (0, 1) if ring_without(chain, x, y) else (1, 1))
                self.assertEqual(high, (1, 0) if ring_without(chain, y, x) else (1, 1))
                for row in tables:
                    if low == high:
                        self.assertEqual(row[y], row[x])
                    else:
                        self.assertTrue(low[0] * row[x] < low[1] * row[y] and high[1] * row[y] < high[0] * row[x])
                # Each fraction strictly between the ends is had.
                for u, v in ((1, 7), (6, 7), (8, 7), (9, 2)):
                    inner = low[0] * v < low[1] * u and high[1] * u < high[0] * v
                    costs = [[v * (a == y) - u * (a == x) if a != b else 0 for b in range(chain.size)]
                             for a in range(chain.size)]
                    self.assertIs(sum_rates(chain, costs, 0) is not None, inner)


class Steps(unittest.TestCase):
    def test_point_129(self):
        for chain, costs in each_case():
            low, high = (Fraction(*mean) for mean in ring_means(chain, costs))
            for rates in several_rates(chain, 3):
                mean = Fraction(*step_mean(rates, costs))
                self.assertEqual(mean, Fraction(pass_sum(rates, costs), pass_sum(rates, ones(chain.size))))
                self.assertTrue(low < mean < high or low == mean == high)
            for number in (low, high, (2 * low + high) / 3, high + 1):
                u, v = number.numerator, number.denominator
                found = rates_with_mean(chain, costs, u, v)
                self.assertIs(found is not None, low < number < high or low == number == high)
                self.assertTrue(found is None or step_mean(found, costs) == (u, v))
                off = [[v * k - u if x != y else 0 for y, k in enumerate(line)] for x, line in enumerate(costs)]
                self.assertIs(even_heights(chain, off) is not None, low == number == high)

    def test_point_130(self):
        for chain, given in each_case():
            for x in range(chain.size):
                for more in (0, 4):
                    costs = [[k + more * (a == x) if a != b else 0 for b, k in enumerate(line)]
                             for a, line in enumerate(given)]
                    through = {ring_cost(costs, ring) for ring in rings(chain) if x in ring}
                    past = {ring_cost(costs, ring) for ring in rings(chain) if x not in ring}
                    found = round_cost(chain, x, costs)
                    self.assertIs(found is not None, len(through) == 1 and past <= {0})
                    for rates in several_rates(chain, 3):
                        self.assertEqual(Fraction(*round_mean(rates, x, costs)),
                                         Fraction(pass_sum(rates, costs), visits(rates, x)))
                        self.assertTrue(found is None or round_mean(rates, x, costs) == (found, 1))

    def test_point_131(self):
        for chain, costs in each_case():
            heights = ring_heights(chain, costs)
            aim = Cost([0] * chain.size, costs)
            if heights is None:
                found = sum_rates(chain, costs, -1)
                self.assertLess(aim.pair_in(Notes.of_world(found).lows)[0], 0)
                continue
            for below, above in ((0, 0), (1, 2), (0, 9)):
                notes = Notes.around(chain, below, above)
                self.assertTrue(all(bound <= 0 for bound in bound_row(notes, heights, costs=costs)))
                self.assertTrue(is_paper(notes, [0] * chain.size, 1, heights, costs=costs))
                self.assertGreaterEqual(ends_of(notes, aim)[0][0], 0)


class Turned(unittest.TestCase):
    def test_point_132(self):
        for table in MIXED + CHAINS[::2]:
            found = current_table(table)
            self.assertTrue(is_even(found))
            self.assertIs(is_balanced(table), found == ~found)
            if is_even(table):
                for lot in all_lots(table.size):
                    outside = [y for y in range(table.size) if y not in lot]
                    self.assertEqual(sum(table.rows[x][y] for x in lot for y in outside),
                                     sum(table.rows[y][x] for x in lot for y in outside))
        for chain in CHAINS[::2]:
            self.assertTrue(is_even(chain) or len(set(tree_row(chain))) > 1)

    def test_point_132_balanced_chains(self):
        for chain in FEW:
            flat = all(len(ring) < 3 for ring in rings(chain))
            tables = several_rates(chain, 5)
            self.assertTrue(not flat or all(is_balanced(rates) for rates in tables))
            self.assertTrue(flat or not all(is_balanced(rates) for rates in tables))
        for chain in CHAINS[::6]:
            both = chain + ~chain
            self.assertTrue(is_balanced(both) and len(set(tree_row(both))) == 1)
            for a, b in both.pairs_of(both.size):
                for c, e in both.pairs_of(both.size)[::2]:
                    if c not in (a, b, e):
                        right = forest_row(both, a, [c])[e] - forest_row(both, b, [c])[e]
                        self.assertEqual(push(both, a, b, c, e), right)

    def test_point_133(self):
        for chain in CHAINS[::5]:
            even = current_table(chain)
            for p in ([1] * chain.size, [2, 3, 1, 6, 2][:chain.size], list(range(1, chain.size + 1))):
                common = 60
                table = Table([[rate * common // entry for rate in row] for entry, row in zip(p, even.rows)])
                sums, rows = tree_row(table), current_rows(table)
                for x, y in table.pairs_of(table.size):
                    self.assertEqual(sums[x] * p[y], sums[y] * p[x])
                    self.assertEqual(rows[x][y] * even[0, table.heads(0)[0]], even[x, y] * rows[0][table.heads(0)[0]])

    def test_point_134(self):
        for table in MIXED + CHAINS[::4]:
            for x in range(table.size):
                self.assertEqual(sum(net(table, x, y) for y in range(table.size) if y != x), 0)
        for chain in FEW:
            long = [ring_arrows(ring) for ring in rings(chain) if len(ring) >= 3]
            for x, y in chain.pairs_of(chain.size):
                forth, back = any((x, y) in ring for ring in long), any((y, x) in ring for ring in long)
                word = net_verdict(chain, x, y)
                self.assertEqual(word, WORDS[forth, back])
                for rates in several_rates(chain, 3):
                    self.assertIn(sign(net(rates, x, y)), SIGNS[word])

    def test_point_135(self):
        for chain in CHAINS[::2]:
            self.assertEqual(of_rings(chain.size, ring_sums(chain)), current_table(chain))
            even = current_table(chain)
            self.assertEqual(of_rings(chain.size, rings_of(even)), even)
            self.assertTrue(is_even(of_rings(chain.size, [(ring, 1) for ring in rings(chain)])))
            rows = current_rows(chain)
            alone = all(rows[x][y] in [number for _, number in ring_parts(chain, x, y)] for x, y in chain)
            self.assertIs(alone, is_hanging(chain))

    def test_point_135_fitting_currents(self):
        many = 0
        for notes in NOTES[::4]:
            for row in share_rows_for(notes):
                if is_reached(notes, row):
                    table = Table(fitting(notes, row))
                    self.assertTrue(is_even(table))
                    self.assertEqual(of_rings(notes.size, rings_of(table)), table)
                    many += 1
        self.assertGreater(many, 20)

    def test_words_depend_on_the_shape_alone(self):
        for chain, costs in each_case(FEW[::3]):
            for rates in several_rates(chain, 3):
                self.assertEqual(shape_of(rates), shape_of(chain))
                self.assertEqual(sum_verdict(rates, costs), sum_verdict(chain, costs))
                self.assertEqual(net_verdict(rates, 0, 1), net_verdict(chain, 0, 1))


if __name__ == "__main__":
    unittest.main()
