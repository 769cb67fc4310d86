"""lastingshares.often: which states are visited and which arrows are passed more often for all rates."""

import unittest
from fractions import Fraction

from lastingshares.chains import Chain
from lastingshares.errors import BadPair, NotArrow
from lastingshares.often import pass_verdict, ring_without, visit_span, visit_verdict
from support import (SHAPES, check_arrow_lists_named, check_error, check_states_named, complete, ring_arrows,
                     several_rates, sign, slow_ring_word, slow_rings, slow_trees_of)

CHAIN = Chain([[0, 2, 0], [1, 0, 1], [3, 0, 0]])
SIGNS = {"above": (1,), "below": (-1,), "still": (0,), "mixed": (-1, 0, 1)}
FEW = SHAPES[:19] + SHAPES[19:80:2] + SHAPES[80::3]


def slow_visits(table):
    return [number * sum(row) for number, row in zip(slow_trees_of(table), table.rows)]


class Visits(unittest.TestCase):
    def test_words(self):
        seen = set()
        for chain in FEW:
            rings = slow_rings(chain)
            rows = [slow_visits(rates) for rates in several_rates(chain, 4)]
            for x, y in chain.pairs_of(chain.size):
                word = slow_ring_word([(x in ring) - (y in ring) for ring in rings])
                self.assertEqual(visit_verdict(chain, x, y), word)
                for row in rows:
                    self.assertIn(sign(row[x] - row[y]), SIGNS[word])
                seen.add(word)
        self.assertEqual(seen, set(SIGNS))

    def test_rings_that_meet_one_state_alone(self):
        seen = set()
        for chain in FEW:
            rings = slow_rings(chain)
            for y, x in chain.pairs_of(chain.size):
                expected = min([ring for ring in rings if y in ring and x not in ring], default=None)
                self.assertEqual(ring_without(chain, y, x), expected)
                seen.add(expected is None)
        self.assertEqual(seen, {True, False})

    def test_spans(self):
        for chain in FEW:
            rings = slow_rings(chain)
            rows = [slow_visits(rates) for rates in several_rates(chain, 5)]
            for x, y in chain.pairs_of(chain.size):
                low = (0, 1) if any(x in ring and y not in ring for ring in rings) else (1, 1)
                high = (1, 0) if any(y in ring and x not in ring for ring in rings) else (1, 1)
                found = visit_span(chain, x, y)
                self.assertEqual((type(found), found), (tuple, (low, high)))
                for row in rows:
                    ratio = Fraction(row[y], row[x])
                    if low == high:
                        self.assertEqual(ratio, 1)
                    else:
                        self.assertGreater(ratio, Fraction(*low))
                        self.assertTrue(high == (1, 0) or ratio < 1)

    def test_edges(self):
        # The rings are 01 and 012: each one that meets 2 meets 0 and 1.
        self.assertEqual([visit_verdict(CHAIN, x, y) for x, y in ((0, 1), (0, 2), (2, 1))], ["still", "above", "below"])
        self.assertEqual([ring_without(CHAIN, y, x) for y, x in ((1, 2), (2, 1), (0, 1))], [(0, 1), None, None])
        self.assertEqual([visit_span(CHAIN, x, y) for x, y in ((0, 1), (0, 2), (2, 0))],
                         [((1, 1), (1, 1)), ((0, 1), (1, 1)), ((1, 1), (1, 0))])
        self.assertEqual((visit_verdict(complete(2), 0, 1), visit_span(complete(2), 1, 0)), ("still", ((1, 1), (1, 1))))
        self.assertEqual(visit_verdict(Chain.around([9] * 8), 7, 3), "still")
        self.assertEqual((visit_verdict(complete(8), 7, 3), visit_span(complete(8), 7, 3)),
                         ("mixed", ((0, 1), (1, 0))))
        self.assertEqual((ring_without(complete(8), 7, 0), ring_without(complete(8), 7, 6)),
                         ((1, 2, 3, 4, 5, 6, 7), (0, 1, 2, 3, 4, 5, 7)))
        star = Chain([[0, 1, 1, 1, 1, 1, 1, 1]] + [[1] + [0] * 7] * 7)
        self.assertEqual((visit_verdict(star, 0, 5), visit_verdict(star, 4, 5), visit_span(star, 5, 0)),
                         ("above", "mixed", ((1, 1), (1, 0))))

    def test_errors(self):
        for call in (visit_verdict, ring_without, visit_span):
            check_states_named(self, call, CHAIN, (0, 1), same=((0, 1),))


class Arrows(unittest.TestCase):
    def some_sets(self, arrows):
        return [[], arrows, arrows[::2], arrows[1::2], arrows[:1], arrows[-1:], arrows[1:4][::-1]]

    def test_words(self):
        seen = set()
        for place, chain in enumerate(FEW):
            rings = slow_rings(chain)
            chosen = self.some_sets(chain.arrows())
            tables = [(rates, slow_trees_of(rates)) for rates in several_rates(chain, 4)]
            for first in chosen:
                for second in chosen[place % 2::2]:
                    kept = (list(first), list(second))
                    numbers = [sum((arrow in first) - (arrow in second) for arrow in ring_arrows(ring))
                               for ring in rings]
                    word = slow_ring_word(numbers)
                    self.assertEqual(pass_verdict(chain, first, second), word)
                    self.assertEqual(pass_verdict(chain, tuple(map(list, first)), tuple(second)), word)
                    self.assertEqual((first, second), kept)
                    for rates, sums in tables:
                        number = sum(sums[x] * rates[x, y] * times
                                     for arrows, times in ((first, 1), (second, -1)) for x, y in arrows)
                        self.assertIn(sign(number), SIGNS[word])
                    seen.add(word)
        self.assertEqual(seen, set(SIGNS))

    def test_edges(self):
        for chain in (CHAIN, complete(2), complete(8)):
            arrows = chain.arrows()
            self.assertEqual([pass_verdict(chain, *two) for two in (([], []), (arrows, []), ((), arrows),
                                                                    (arrows, arrows))],
                             ["still", "above", "below", "still"])
        # Each ring with 12 has 01 and 20; 10 is in another ring.
        self.assertEqual(pass_verdict(CHAIN, [(0, 1)], [(1, 2)]), "above")
        self.assertEqual(pass_verdict(CHAIN, [(2, 0)], [(1, 2)]), "still")
        self.assertEqual(pass_verdict(CHAIN, [(1, 0)], [(1, 2)]), "mixed")
        self.assertEqual(pass_verdict(CHAIN, [(1, 0), (1, 2)], [(0, 1)]), "still")
        self.assertEqual(pass_verdict(CHAIN, [(0, 1), (1, 2)], [(0, 1), (1, 0)]), "mixed")
        self.assertEqual(pass_verdict(complete(8), [(0, 1)], [(6, 7)]), "mixed")

    def test_errors(self):
        for other in ([], [(0, 1)], [(0, 0)], None):
            check_arrow_lists_named(self, lambda arrows, other=other: pass_verdict(CHAIN, arrows, other))
        check_arrow_lists_named(self, lambda arrows: pass_verdict(CHAIN, [(0, 1)], arrows))
        check_error(self, NotArrow(0, 2), pass_verdict, CHAIN, [(0, 2)], 5)
        check_error(self, BadPair(-1), pass_verdict, CHAIN, [], 5)


if __name__ == "__main__":
    unittest.main()
