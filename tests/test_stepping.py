"""lastingshares.stepping: mean costs of steps and rounds, ring means, rates with a mean."""

import unittest
from fractions import Fraction

from lastingshares.chains import Chain
from lastingshares.errors import BadCosts, BadState, NoTree
from lastingshares.heights import ring_heights
from lastingshares.stepping import rates_with_mean, ring_means, round_cost, round_mean, step_mean
from lastingshares.tables import Table
from support import (CHAINS, MIXED, SHAPES, check_costs_named, check_error, check_numbers_named, check_states_named,
                     complete, costs_for, empty, several_rates, shape_of, slow_cost, slow_pass, slow_rings,
                     slow_trees_of)

CHAIN = Chain([[0, 2, 0], [1, 0, 1], [3, 0, 0]])
COSTS = [[0, 1, 0], [-2, 0, 0], [5, 0, 0]]
SINK = Table([[0, 2, 3], [1, 0, 4], [0, 0, 0]])
FEW = SHAPES[:19] + SHAPES[19:80:3] + SHAPES[80::5]


def parts_of(number):
    return (number.numerator, number.denominator)


def ones(size):
    return [[0 if x == y else 1 for y in range(size)] for x in range(size)]


def slow_visits(table, x):
    return slow_trees_of(table)[x] * sum(table.rows[x])


def each_case(chosen=FEW):
    for place, chain in enumerate(chosen):
        for turn in range(5):
            yield chain, costs_for(chain.size, 3 * place + turn)


class Steps(unittest.TestCase):
    def test_mean_costs(self):
        for place, table in enumerate(MIXED + CHAINS[::3]):
            lines = costs_for(table.size, place)
            kept = [list(line) for line in lines]
            steps = slow_pass(table, ones(table.size))
            if steps == 0:
                check_error(self, NoTree(), step_mean, table, lines)
            else:
                found = step_mean(table, tuple(map(tuple, lines)))
                self.assertEqual((type(found), found), (tuple, parts_of(Fraction(slow_pass(table, lines), steps))))
            self.assertEqual(lines, kept)

    def test_ring_means(self):
        for chain, lines in each_case():
            means = [Fraction(slow_cost(lines, ring), len(ring)) for ring in slow_rings(chain)]
            found = ring_means(chain, lines)
            self.assertEqual((type(found), found), (tuple, (parts_of(min(means)), parts_of(max(means)))))
            for rates in several_rates(chain, 4):
                number = Fraction(slow_pass(rates, lines), slow_pass(rates, ones(chain.size)))
                self.assertTrue(min(means) < number < max(means) or min(means) == number == max(means))

    def test_rates_with_a_mean(self):
        seen = set()
        for chain, lines in each_case():
            low, high = (Fraction(*mean) for mean in ring_means(chain, lines))
            for number in (low, high, (low + high) / 2, low + (high - low) / 17, low - 1, high + Fraction(1, 9)):
                had = low < number < high or low == number == high
                found = rates_with_mean(chain, lines, 3 * number.numerator, 3 * number.denominator)
                seen.add(had)
                if had:
                    self.assertEqual((type(found), shape_of(found)), (Chain, shape_of(chain)))
                    self.assertEqual(Fraction(slow_pass(found, lines), slow_pass(found, ones(chain.size))), number)
                else:
                    self.assertIsNone(found)
        self.assertEqual(seen, {True, False})

    def test_edges(self):
        # PASS(k) is 30, and the visits are 12, 12 and 6.
        self.assertEqual((step_mean(CHAIN, COSTS), ring_means(CHAIN, COSTS)), ((1, 1), ((-1, 2), (2, 1))))
        self.assertEqual((step_mean(CHAIN, [[0] * 3] * 3), ring_means(CHAIN, [[0] * 3] * 3)), ((0, 1), ((0, 1),) * 2))
        for table in (empty(2), empty(8), SINK):
            check_error(self, NoTree(), step_mean, table, [[0] * table.size] * table.size)
        for u, v, had in ((-1, 2, False), (2, 1, False), (-1, 3, True), (199, 100, True), (3, 1, False)):
            found = rates_with_mean(CHAIN, COSTS, u, v)
            self.assertIs(found is not None, had)
            self.assertTrue(found is None or step_mean(found, COSTS) == (u, v))
        self.assertEqual(ring_means(complete(2), [[0, 3], [4, 0]]), ((7, 2), (7, 2)))
        self.assertIsNotNone(rates_with_mean(complete(2), [[0, 3], [4, 0]], 14, 4))
        self.assertIsNone(rates_with_mean(complete(2), [[0, 3], [4, 0]], 13, 4))

    def test_eight_states_with_all_arrows(self):
        chain = complete(8)
        lines = [[0 if x == y else (x * 7 ** 14 + y * 7 ** 13) % 10 ** 9 for y in range(8)] for x in range(8)]
        low, high = (Fraction(*mean) for mean in ring_means(chain, lines))
        self.assertTrue(low < Fraction(*step_mean(chain, lines)) < high)
        for number, times in ((low, 1), (high, -1)):
            u, v = parts_of(number)
            off = [[0 if x == y else times * (v * k - u) for y, k in enumerate(line)] for x, line in enumerate(lines)]
            # No ring is beyond the end. Some ring is at it: it falls below 0 if each arrow costs a little less.
            self.assertIsNotNone(ring_heights(chain, off))
            less = [[0 if x == y else 9 * k - 1 for y, k in enumerate(line)] for x, line in enumerate(off)]
            self.assertIsNone(ring_heights(chain, less))
            self.assertIsNone(rates_with_mean(chain, lines, u, v))
        u, v = parts_of((low + 3 * high) / 4)
        found = rates_with_mean(chain, lines, 2 * u, 2 * v)
        self.assertEqual((step_mean(found, lines), shape_of(found)), ((u, v), shape_of(chain)))

    def test_errors(self):
        for table in (CHAIN, SINK, empty(3)):
            check_costs_named(self, lambda costs, table=table: step_mean(table, costs))
        check_costs_named(self, lambda costs: ring_means(CHAIN, costs))
        for u, v in ((1, 1), (True, 0)):
            check_costs_named(self, lambda costs, u=u, v=v: rates_with_mean(CHAIN, costs, u, v))
        for v in (1, 0, None):
            check_numbers_named(self, "u", lambda u, v=v: rates_with_mean(CHAIN, COSTS, u, v), least=None)
        check_numbers_named(self, "v", lambda v: rates_with_mean(CHAIN, COSTS, 1, v), least=1)


class Rounds(unittest.TestCase):
    def test_mean_costs(self):
        for place, table in enumerate(MIXED + CHAINS[::3]):
            lines = costs_for(table.size, place + 1)
            for x in range(table.size):
                times = slow_visits(table, x)
                if times == 0:
                    check_error(self, NoTree(), round_mean, table, x, lines)
                else:
                    found = round_mean(table, x, lines)
                    self.assertEqual((type(found), found), (tuple, parts_of(Fraction(slow_pass(table, lines), times))))

    def some_costs(self, chain, lines, x):
        """Costs beside which a round from x costs 5 more, or rises that it does not notice."""
        yield lines
        yield [[0 if a == b else 5 * (a == x) for b in range(chain.size)] for a in range(chain.size)]
        rises = costs_for(chain.size, 2)
        yield [[0 if a == b else rises[a][b] - 7 * (b == x) for b in range(chain.size)] for a in range(chain.size)]

    def test_costs_that_are_the_same_for_all_rates(self):
        seen = set()
        for chain, given in each_case():
            rings = slow_rings(chain)
            for x in range(chain.size):
                for lines in self.some_costs(chain, given, x):
                    through = {slow_cost(lines, ring) for ring in rings if x in ring}
                    past = {slow_cost(lines, ring) for ring in rings if x not in ring}
                    same = len(through) == 1 and past <= {0}
                    found = round_cost(chain, x, lines)
                    seen.add(same)
                    if same:
                        self.assertEqual((type(found), found), (int, through.pop()))
                        for rates in several_rates(chain, 3):
                            self.assertEqual(round_mean(rates, x, lines), (found, 1))
                    else:
                        self.assertIsNone(found)
        self.assertEqual(seen, {True, False})

    def test_edges(self):
        self.assertEqual([round_mean(CHAIN, x, COSTS) for x in range(3)], [(5, 2), (5, 2), (5, 1)])
        self.assertEqual([round_cost(CHAIN, x, [[0, 3, 0], [4, 0, 2], [2, 0, 0]]) for x in range(3)], [7, 7, None])
        self.assertEqual([round_cost(CHAIN, x, [[0, 3, 0], [-3, 0, 2], [2, 0, 0]]) for x in range(3)], [None, None, 7])
        self.assertEqual([round_cost(CHAIN, x, [[0] * 3] * 3) for x in range(3)], [0, 0, 0])
        self.assertEqual([round_cost(complete(2), x, [[0, 5], [-9, 0]]) for x in range(2)], [-4, -4])
        self.assertEqual(round_cost(Chain.around([3] * 8), 5, [[0 if x == y else 10 ** 12 for y in range(8)]
                                                               for x in range(8)]), 8 * 10 ** 12)
        self.assertIsNone(round_cost(complete(8), 5, [[0 if x == y else 1 for y in range(8)] for x in range(8)]))
        costs = [[0 if x == y else int(x == 5) for y in range(8)] for x in range(8)]
        self.assertEqual((round_cost(complete(8), 5, costs), round_cost(complete(8), 4, costs)), (1, None))
        for table in (SINK, empty(3)):
            for x in range(3):
                check_error(self, NoTree(), round_mean, table, x, COSTS)
        # Nothing comes back to 0, though the trees to the ring of 1 and 2 count.
        table = Table([[0, 1, 0], [0, 0, 1], [0, 2, 0]])
        check_error(self, NoTree(), round_mean, table, 0, COSTS)
        self.assertEqual(round_mean(table, 1, [[0, 9, 9], [9, 0, 3], [9, 4, 0]]), (7, 1))

    def test_errors(self):
        for costs in (COSTS, None, []):
            for table in (CHAIN, SINK):
                check_states_named(self, round_mean, table, (0, costs), at=(0,))
            check_states_named(self, round_cost, CHAIN, (0, costs), at=(0,))
        for table in (CHAIN, SINK, empty(3)):
            check_costs_named(self, lambda costs, table=table: round_mean(table, 1, costs))
        check_costs_named(self, lambda costs: round_cost(CHAIN, 1, costs))
        check_error(self, BadState(0), round_mean, empty(3), 3, None)
        check_error(self, BadCosts(-1, -1), round_mean, empty(3), 2, [])


if __name__ == "__main__":
    unittest.main()
