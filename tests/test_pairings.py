"""lastingshares.pairings: lifting and lowering walks, and grown forests."""

import unittest
from itertools import product

from lastingshares.chains import Chain
from lastingshares.errors import BadPair, BadSet
from lastingshares.forests import forest_of
from lastingshares.pairings import grown, lifting_forest, lifting_walks, lowering_forest, lowering_walks
from support import (SHAPES, all_roots, check_error, check_sets_named, check_states_named, complete, lead_of,
                     slow_parted, slow_walks)

CHAIN = Chain([[0, 1, 1], [1, 0, 2], [1, 0, 0]])
FIVE = Chain.of_arrows(5, [(0, 1), (1, 2), (2, 3), (3, 4), (4, 0), (0, 2), (2, 0), (3, 0)])
FEW = SHAPES[:19] + SHAPES[19:80:6] + SHAPES[80::12]


def slow_grown(chain, roots, walks):
    """The two steps of point 64, word by word."""
    arrows = {}
    for walk in walks:
        for here, after in zip(walk, walk[1:]):
            if here in roots or here in arrows:
                break
            arrows[here] = after
    laid = [x for x in range(chain.size) if x in roots or x in arrows]
    distance = [min(len(walk) - 1 for y in laid for walk in slow_walks(chain, x, y)) for x in range(chain.size)]
    entries = []
    for x in range(chain.size):
        if x in roots:
            entries.append(x)
        elif x in arrows:
            entries.append(arrows[x])
        else:
            entries.append(min(y for y in chain.heads(x) if distance[y] == distance[x] - 1))
    return tuple(entries)


class Walks(unittest.TestCase):
    def test_each_four_states(self):
        for chain in FEW:
            pairs = chain.pairs_of(chain.size)
            for (a, b), (c, e) in product(pairs, pairs):
                self.assertEqual(lifting_walks(chain, a, b, c, e), slow_parted(chain, b, c, a, e))
                self.assertEqual(lowering_walks(chain, a, b, c, e), slow_parted(chain, b, e, a, c))

    def test_edges(self):
        self.assertEqual((lifting_walks(complete(2), 0, 1, 1, 0), lowering_walks(complete(2), 0, 1, 1, 0)),
                         (((1,), (0,)), None))
        self.assertEqual(lifting_walks(complete(8), 3, 5, 1, 7), ((5, 1), (3, 7)))
        self.assertEqual(lowering_walks(complete(8), 3, 5, 1, 7), ((5, 7), (3, 1)))
        self.assertEqual(lifting_walks(complete(8), 3, 5, 5, 7), ((5,), (3, 7)))
        self.assertIsNone(lowering_walks(complete(8), 3, 5, 5, 7))
        ring = Chain.around([1] * 8)
        self.assertEqual((lifting_walks(ring, 0, 4, 6, 3), lowering_walks(ring, 0, 4, 6, 3)),
                         (((4, 5, 6), (0, 1, 2, 3)), None))
        self.assertIsNone(lifting_walks(ring, 0, 1, 2, 3))

    def test_errors(self):
        for call in (lifting_walks, lowering_walks, lifting_forest, lowering_forest):
            check_states_named(self, call, CHAIN, (0, 1, 1, 2), same=((0, 1), (2, 3)))
            check_states_named(self, call, CHAIN, (0, 1, 2, 2), same=((0, 1),))


class Grown(unittest.TestCase):
    def test_each_set_of_roots_and_up_to_two_walks(self):
        for chain in SHAPES[:19] + SHAPES[19:80:20]:
            for roots in all_roots(chain.size)[::2]:
                ends = [walk for x in range(chain.size) for root in roots for walk in slow_walks(chain, x, root)]
                self.assertEqual(grown(chain, roots, []), slow_grown(chain, roots, []))
                for place, first in enumerate(ends):
                    self.assertEqual(grown(chain, tuple(roots), (first,)), slow_grown(chain, roots, [first]))
                    for second in ends[place % 5::5]:
                        walks = [list(first), second]
                        found = grown(chain, roots, walks)
                        self.assertEqual(found, slow_grown(chain, roots, walks))
                        self.assertEqual(forest_of(chain, found, roots), found)
                        self.assertEqual(walks, [list(first), second])

    def test_edges(self):
        self.assertEqual(grown(FIVE, [2], [(2,)]), (2, 2, 2, 0, 0))
        self.assertEqual(grown(FIVE, [2], []), (2, 2, 2, 0, 0))
        self.assertIs(type(grown(FIVE, [2], [])), tuple)
        # The walk (0, 1, 2) is laid, and so 0 does not go straight to 2.
        self.assertEqual(grown(FIVE, [2], [[0, 1, 2]]), (1, 2, 2, 0, 0))
        # A walk ends at the first root that it meets, and where an arrow is laid already.
        self.assertEqual(grown(FIVE, (2, 4), [(1, 2, 3, 4)]), (1, 2, 2, 4, 4))
        self.assertEqual(grown(FIVE, [2], [(0, 1, 2), (3, 0, 2)]), (1, 2, 2, 0, 0))
        self.assertEqual(grown(FIVE, [2], [(3, 0, 2), (3, 4, 0, 1, 2)]), (2, 2, 2, 0, 0))
        self.assertEqual(grown(FIVE, [0, 1, 2, 3, 4], [(4,), (3, 4)]), (0, 1, 2, 3, 4))
        # Laid are 3, 5 and 7; the others go to the least one of them.
        self.assertEqual(grown(complete(8), [7], [(3, 7), (5, 3, 7)]), (3, 3, 3, 7, 3, 3, 3, 7))
        self.assertEqual(grown(Chain.around([1] * 8), [0], []), (0, 2, 3, 4, 5, 6, 7, 0))

    def test_wrong_roots(self):
        for walks in ([], None, [(9,)]):
            check_sets_named(self, lambda roots, walks=walks: grown(CHAIN, roots, walks), least=1)

    def test_wrong_walks(self):
        for thing in (None, 0, True, "01", {0: 1}, {0}):
            check_error(self, BadPair(-1), grown, FIVE, [2], thing)
            check_error(self, BadSet(0), grown, FIVE, [5], thing)
        wrong = [None, 0, "2", {2}, (), [], (5,), (-1,), (True, 2), (0, True), ("0", 2), (2, 2), (0, 1, 0, 2),
                 (1, 0, 2), (0, 3, 2), (0, 1), (2, 0), (4,), (2, 3, 4), (0, 2, 3), ((0, 2),)]
        for walk in wrong:
            check_error(self, BadPair(0), grown, FIVE, [2], [walk])
            check_error(self, BadPair(2), grown, FIVE, [2], [(1, 2), [0, 2], walk, None])

    def test_walks_may_repeat(self):
        self.assertEqual(grown(FIVE, [2], [(0, 1, 2)] * 3), (1, 2, 2, 0, 0))


class Forests(unittest.TestCase):
    def test_each_four_states(self):
        for chain in FEW:
            pairs = chain.pairs_of(chain.size)
            for (a, b), (c, e) in product(pairs, pairs):
                up, down = slow_parted(chain, b, c, a, e), slow_parted(chain, b, e, a, c)
                lifting, lowering = lifting_forest(chain, a, b, c, e), lowering_forest(chain, a, b, c, e)
                self.assertEqual(lifting, None if up is None else slow_grown(chain, (c, e), up))
                self.assertEqual(lowering, None if down is None else slow_grown(chain, (c, e), down))
                if lifting is not None:
                    self.assertEqual((lead_of(lifting, b), lead_of(lifting, a)), (c, e))
                if lowering is not None:
                    self.assertEqual((lead_of(lowering, b), lead_of(lowering, a)), (e, c))


if __name__ == "__main__":
    unittest.main()
