"""lastingshares.heights: rings of a cost below 0, heights, words and rates of sums of passed costs."""

import unittest

from lastingshares.chains import Chain
from lastingshares.errors import BadCosts
from lastingshares.heights import even_heights, low_ring, ring_heights, sum_rates, sum_verdict
from lastingshares.passings import pass_sum
from support import (SHAPES, check_costs_named, check_error, check_signs_named, complete, costs_for, several_rates,
                     shape_of, sign, slow_cost, slow_pass, slow_ring_word, slow_rings, slow_walks)

CHAIN = Chain([[0, 2, 0], [1, 0, 1], [3, 0, 0]])
SIGNS = {"above": (1,), "below": (-1,), "still": (0,), "mixed": (-1, 0, 1)}
FEW = SHAPES[:19] + SHAPES[19:80:2] + SHAPES[80::3]


def each_case(chosen=FEW):
    """A chain, costs and the rings with their costs."""
    for place, chain in enumerate(chosen):
        rings = slow_rings(chain)
        for turn in range(5):
            lines = costs_for(chain.size, 7 * place + turn)
            for costs in (lines, [[-cost for cost in line] for line in lines]):
                yield chain, costs, {ring: slow_cost(costs, ring) for ring in rings}


def walk_cost(costs, walk):
    return sum(costs[x][y] for x, y in zip(walk, walk[1:]))


def negative(costs):
    return [[-cost for cost in line] for line in costs]


class Rings(unittest.TestCase):
    def test_the_least_ring_below_0(self):
        seen = set()
        for chain, costs, rings in each_case():
            low = [ring for ring in rings if rings[ring] < 0]
            seen.add(bool(low))
            kept = [list(line) for line in costs]
            self.assertEqual(low_ring(chain, costs), min(low, default=None))
            self.assertEqual(low_ring(chain, tuple(map(tuple, costs))), min(low, default=None))
            self.assertEqual(costs, kept)
        self.assertEqual(seen, {True, False})

    def test_heights(self):
        seen = set()
        for chain, costs, rings in each_case():
            found = ring_heights(chain, costs)
            seen.add(found is None)
            if min(rings.values()) < 0:
                self.assertIsNone(found)
            else:
                least = [min(walk_cost(costs, walk) for walk in slow_walks(chain, 0, x)) for x in range(chain.size)]
                self.assertEqual((type(found), found), (tuple, tuple(least)))
                self.assertTrue(all(costs[a][b] >= found[b] - found[a] for a, b in chain.arrows()))
        self.assertEqual(seen, {True, False})

    def test_even_heights(self):
        seen = set()
        for chain, costs, rings in each_case():
            found = even_heights(chain, costs)
            seen.add(found is None)
            if any(rings.values()):
                self.assertIsNone(found)
            else:
                self.assertEqual((type(found), found[0]), (tuple, 0))
                self.assertEqual([found[b] - found[a] for a, b in chain.arrows()],
                                 [costs[a][b] for a, b in chain.arrows()])
        self.assertEqual(seen, {True, False})

    def test_edges(self):
        costs = [[0, 3, 0], [-1, 0, 2], [-4, 0, 0]]
        self.assertEqual((ring_heights(CHAIN, costs), even_heights(CHAIN, costs)), ((0, 3, 5), None))
        self.assertEqual((low_ring(CHAIN, costs), low_ring(CHAIN, negative(costs))), (None, (0, 1)))
        # Costs of pairs that are no arrows do not matter.
        self.assertEqual(ring_heights(CHAIN, [[0, 3, -99], [-1, 0, 2], [-4, -99, 0]]), (0, 3, 5))
        self.assertEqual(even_heights(CHAIN, [[0, 3, 77], [-3, 0, 2], [-5, -9, 0]]), (0, 3, 5))
        for size in (2, 8):
            zeros = [[0] * size] * size
            self.assertEqual((low_ring(complete(size), zeros), ring_heights(complete(size), zeros),
                              even_heights(complete(size), zeros)), (None, (0,) * size, (0,) * size))

    def test_eight_states_with_all_arrows(self):
        chain = complete(8)
        heights = [0, 10 ** 12, -5, 3, 3, -10 ** 12, 1, 0]
        rises = [[heights[y] - heights[x] for y in range(8)] for x in range(8)]
        self.assertEqual((even_heights(chain, rises), ring_heights(chain, rises)), (tuple(heights), tuple(heights)))
        self.assertIsNone(low_ring(chain, rises))
        rises[7][6] -= 1
        self.assertEqual((low_ring(chain, rises), ring_heights(chain, rises)), ((0, 1, 2, 3, 4, 5, 7, 6), None))
        rises[7][6] += 2
        self.assertEqual((low_ring(chain, rises), ring_heights(chain, rises)), (None, tuple(heights)))
        self.assertIsNone(even_heights(chain, rises))
        self.assertEqual(low_ring(chain, negative(rises)), (0, 1, 2, 3, 4, 5, 7, 6))
        # Only one ring of two states, the last one of all, is below 0.
        costs = [[0 if x == y else 9 for y in range(8)] for x in range(8)]
        costs[6][7], costs[7][6] = 4, -5
        self.assertEqual((low_ring(chain, costs), sum_verdict(chain, costs)), ((6, 7), "mixed"))

    def test_errors(self):
        for call in (low_ring, ring_heights, even_heights, sum_verdict):
            check_costs_named(self, lambda costs, call=call: call(CHAIN, costs))
        for thing in (0, 5, True):
            check_costs_named(self, lambda costs, thing=thing: sum_rates(CHAIN, costs, thing))


class Words(unittest.TestCase):
    def test_words(self):
        seen = set()
        for chain, costs, rings in each_case():
            word = slow_ring_word(rings.values())
            self.assertEqual(sum_verdict(chain, costs), word)
            for rates in several_rates(chain, 4):
                self.assertIn(sign(slow_pass(rates, costs)), SIGNS[word])
                self.assertEqual(sum_verdict(rates, costs), word)
            seen.add(word)
        self.assertEqual(seen, set(SIGNS))

    def test_rates_of_each_sign(self):
        for chain, costs, rings in each_case():
            word = slow_ring_word(rings.values())
            for wanted in (1, 0, -1):
                found = sum_rates(chain, costs, wanted)
                if wanted in SIGNS[word]:
                    self.assertEqual((type(found), shape_of(found)), (Chain, shape_of(chain)))
                    self.assertEqual(sign(slow_pass(found, costs)), wanted)
                else:
                    self.assertIsNone(found)

    def test_eight_states_with_all_arrows(self):
        chain = complete(8)
        costs = [[0 if x == y else (x * 7 ** 14 + y * 7 ** 13) % 10 ** 9 - 5 * 10 ** 8 for y in range(8)]
                 for x in range(8)]
        self.assertEqual(sum_verdict(chain, costs), "mixed")
        for wanted in (1, 0, -1):
            found = sum_rates(chain, costs, wanted)
            self.assertEqual((shape_of(found), sign(pass_sum(found, costs))), (shape_of(chain), wanted))
        ones = [[0 if x == y else 1 for y in range(8)] for x in range(8)]
        self.assertEqual([sum_verdict(chain, lines) for lines in (ones, negative(ones))], ["above", "below"])
        self.assertEqual([sum_rates(chain, ones, wanted) is None for wanted in (1, 0, -1)], [False, True, True])
        # One great gain beside great losses: rates at which it outweighs them exist all the same.
        costs = [[0 if x == y else -10 ** 12 for y in range(8)] for x in range(8)]
        costs[3][2] = 10 ** 12 + 1
        for wanted in (1, 0, -1):
            self.assertEqual(sign(pass_sum(sum_rates(chain, costs, wanted), costs)), wanted)

    def test_edges(self):
        costs = [[0, 3, 0], [-1, 0, 2], [-4, 0, 0]]
        self.assertEqual((sum_verdict(CHAIN, costs), sum_verdict(CHAIN, negative(costs))), ("above", "below"))
        self.assertEqual(sum_verdict(CHAIN, [[0, 3, 77], [-3, 0, 2], [-5, -9, 0]]), "still")
        self.assertEqual(sum_verdict(CHAIN, [[0, 3, 0], [-4, 0, 2], [-4, 0, 0]]), "mixed")
        self.assertEqual(sum_verdict(complete(2), [[0, 5], [-5, 0]]), "still")
        self.assertEqual(sum_verdict(complete(2), [[0, 5], [-4, 0]]), "above")

    def test_errors(self):
        check_signs_named(self, (1, 0, -1), lambda thing: sum_rates(CHAIN, [[0] * 3] * 3, thing))
        check_error(self, BadCosts(0, 0), sum_rates, CHAIN, [[1, 0, 0]] * 3, 7)


if __name__ == "__main__":
    unittest.main()
