"""lastingshares.shapes: only trees, hanging chains, and what shows that a chain does not hang."""

import unittest

from lastingshares.chains import Chain
from lastingshares.errors import BadState
from lastingshares.shapes import crossing_rings, is_hanging, only_tree, second_walk, ungated
from support import CHAINS, check_error, complete, slow_rings, slow_trees, slow_walks

STAR = Chain.of_arrows(4, [(0, 1), (1, 0), (0, 2), (2, 0), (0, 3), (3, 0)])
HANGING = [STAR, Chain.around([1] * 8), Chain.around([3, 1]), Chain.of_arrows(
    5, [(0, 1), (1, 2), (2, 0), (2, 3), (3, 4), (4, 2)])]


def slow_crossing(chain):
    found = slow_rings(chain)
    for ring in found:
        for other in found:
            if ring != other and len(set(ring) & set(other)) > 1:
                return (ring, other)
    return None


def slow_second(chain):
    for x, y in chain.pairs_of(chain.size):
        found = slow_walks(chain, x, y)
        if len(found) > 1:
            return tuple(found[:2])
    return None


def slow_ungated(chain, c):
    for a, b in chain:
        gate_b = all(b in walk for walk in slow_walks(chain, a, c))
        gate_a = all(a in walk for walk in slow_walks(chain, b, c))
        if not gate_a and not gate_b:
            return (a, b)
    return None


class Shapes(unittest.TestCase):
    def test_some_of_the_chains_hang_and_some_do_not(self):
        for size in (2, 3, 4, 5):
            words = {is_hanging(chain) for chain in CHAINS + HANGING if chain.size == size}
            self.assertEqual(words, {True} if size == 2 else {True, False})

    def test_only_trees(self):
        for chain in CHAINS + HANGING[:1]:
            for c in range(chain.size):
                found = slow_trees(chain, c)
                self.assertEqual(only_tree(chain, c), found[0] if len(found) == 1 else None)

    def test_hanging(self):
        for chain in CHAINS:
            trees = [slow_trees(chain, c) for c in range(chain.size)]
            self.assertIs(is_hanging(chain), all(len(found) == 1 for found in trees))
        for chain in HANGING:
            self.assertIs(is_hanging(chain), True)

    def test_crossing_rings(self):
        for chain in CHAINS + HANGING:
            self.assertEqual(crossing_rings(chain), slow_crossing(chain) if chain.size < 8 else None)

    def test_crossing_rings_behind_others(self):
        chain = Chain.of_arrows(5, [(0, 1), (1, 0), (1, 2), (2, 1), (2, 3), (3, 4), (4, 2), (4, 3)])
        self.assertEqual(crossing_rings(chain), ((2, 3, 4), (3, 4)))

    def test_second_walk(self):
        for chain in CHAINS + HANGING:
            self.assertEqual(second_walk(chain), slow_second(chain))

    def test_ungated(self):
        for chain in CHAINS + HANGING:
            for c in range(chain.size):
                self.assertEqual(ungated(chain, c), slow_ungated(chain, c))

    def test_kinds(self):
        chain = complete(4)
        for found in (crossing_rings(chain), second_walk(chain)):
            self.assertEqual((type(found), {type(part) for part in found}), (tuple, {tuple}))
        self.assertEqual((type(only_tree(STAR, 2)), type(ungated(chain, 0))), (tuple, tuple))


class Edges(unittest.TestCase):
    def test_two_states(self):
        chain = complete(2)
        self.assertEqual([only_tree(chain, 0), only_tree(chain, 1)], [(0, 0), (1, 1)])
        self.assertIs(is_hanging(chain), True)
        self.assertEqual((crossing_rings(chain), second_walk(chain), ungated(chain, 0)), (None, None, None))

    def test_all_arrows_of_eight_states(self):
        chain = complete(8)
        self.assertEqual([only_tree(chain, c) for c in range(8)], [None] * 8)
        self.assertIs(is_hanging(chain), False)
        self.assertEqual(crossing_rings(chain), ((0, 1), (0, 1, 2)))
        self.assertEqual(second_walk(chain), ((0, 1), (0, 2, 1)))
        self.assertEqual((ungated(chain, 0), ungated(chain, 7)), ((1, 2), (0, 1)))

    def test_a_ring_of_eight_states(self):
        chain = Chain.around([1] * 8)
        self.assertEqual(only_tree(chain, 3), (1, 2, 3, 3, 5, 6, 7, 0))
        self.assertEqual((crossing_rings(chain), second_walk(chain), ungated(chain, 3)), (None, None, None))

    def test_late_crossings_of_eight_states(self):
        pairs = [(0, 1), (1, 0)] + [(x, y) for x in range(1, 8) for y in range(1, 8) if x != y]
        chain = Chain.of_arrows(8, pairs)
        self.assertEqual(crossing_rings(chain), ((1, 2), (1, 2, 3)))
        self.assertEqual(second_walk(chain), ((0, 1, 2), (0, 1, 3, 2)))
        self.assertEqual((only_tree(chain, 0), ungated(chain, 0)), (None, (2, 3)))

    def test_states_that_are_wrong(self):
        for thing in (True, False, -1, 4, None, "0", (0,)):
            check_error(self, BadState(0), only_tree, STAR, thing)
            check_error(self, BadState(0), ungated, STAR, thing)


if __name__ == "__main__":
    unittest.main()
