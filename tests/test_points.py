"""The facts that points 1 to 12 of the document state, tried on many tables and chains."""

import unittest
from itertools import product

from lastingshares.chains import Chain, is_joined, same_shape
from lastingshares.parted import parted_walks, separating
from lastingshares.rings import rings, rings_with
from lastingshares.shapes import crossing_rings, is_hanging, only_tree, second_walk, ungated
from lastingshares.tables import Table
from lastingshares.walks import gates, has_walk, is_gate, walks
from support import CHAINS, SMALL, TABLES, all_lots, ring_arrows, slow_trees

FEW = SMALL[::3] + TABLES[68::6]


def parted_either_way(table, a, b, c, e):
    return parted_walks(table, a, c, b, e) or parted_walks(table, a, e, b, c)


class Tables(unittest.TestCase):
    def test_point_1_arrows_and_shapes(self):
        for table in TABLES:
            self.assertEqual([pair for pair in table.pairs_of(table.size) if table[pair] >= 1], table.arrows())
            for x in range(table.size):
                self.assertEqual(table.out_of(x), sum(table[x, y] for y in range(table.size) if y != x))
            other = Table([[rate * 7 for rate in row] for row in table.rows])
            self.assertTrue(same_shape(table, other))

    def test_point_2_sums_and_turned_tables(self):
        for table in TABLES:
            self.assertEqual(~~table, table)
            self.assertEqual(table + table + table, table * 3)
            for other in TABLES[::9]:
                if table.size == other.size:
                    self.assertEqual(~(table + other), ~table + ~other)
                    self.assertEqual(table + other, other + table)


class Walks(unittest.TestCase):
    def test_point_3_walks(self):
        for table in TABLES[::2]:
            for x, y in product(range(table.size), repeat=2):
                found = walks(table, x, y)
                self.assertEqual(found, sorted(set(found)))
                for walk in found:
                    self.assertEqual((walk[0], walk[-1], len(set(walk))), (x, y, len(walk)))
                    self.assertTrue(all(pair in table for pair in zip(walk, walk[1:])))

    def test_point_4_joined_tables_and_lots(self):
        for table in TABLES:
            closed = [lot for lot in all_lots(table.size)
                      if not any(x in lot and y not in lot for x, y in table)]
            self.assertIs(is_joined(table), not closed)

    def test_point_5_all_walks_meet_the_gates_in_one_order(self):
        for table in TABLES[::2]:
            for a, c in product(range(table.size), repeat=2):
                self.assertTrue(is_gate(table, a, a, c) and is_gate(table, a, c, c))
                for walk in walks(table, a, c):
                    met = tuple(b for b in walk if is_gate(table, a, b, c))
                    self.assertEqual(met, gates(table, a, c))
                    self.assertEqual((met[0], met[-1]), (a, c))

    def test_point_6_one_of_two_walks(self):
        for chain in CHAINS:
            for a, b in chain.pairs_of(chain.size):
                for c in range(chain.size):
                    from_b = has_walk(chain, b, c, without=(a,))
                    from_a = has_walk(chain, a, c, without=(b,))
                    self.assertTrue(from_a or from_b)
                    self.assertFalse(is_gate(chain, a, b, c) and is_gate(chain, b, a, c))
                    if c in (a, b):
                        self.assertNotEqual(from_a, from_b)

    def test_point_7_separating_or_parted(self):
        for table in TABLES:
            pairs = [pair for pair in table.pairs_of(table.size) if pair[0] < pair[1]]
            for (a, b), (c, e) in product(pairs, pairs):
                parted = parted_either_way(table, a, b, c, e)
                self.assertIs(separating(table, a, b, c, e) is None, parted is not None)

    def test_point_8_fewer_and_more_arrows(self):
        for table in FEW:
            states = range(table.size)
            for x, y in table:
                fewer = table.with_rate(x, y, 0)
                for a, b, c in product(states, repeat=3):
                    if has_walk(fewer, a, c) and is_gate(table, a, b, c):
                        self.assertTrue(is_gate(fewer, a, b, c))
                for a, c, b, e in product(states, repeat=4):
                    if parted_walks(fewer, a, c, b, e) is not None:
                        self.assertIsNotNone(parted_walks(table, a, c, b, e))

    def test_point_8_turned_tables(self):
        for table in FEW:
            turned = ~table
            for x, y in product(range(table.size), repeat=2):
                found = gates(table, x, y)
                self.assertEqual(gates(turned, y, x), found if found is None else found[::-1])
                self.assertEqual(walks(turned, y, x), sorted(walk[::-1] for walk in walks(table, x, y)))
            for x, y, z, u in product(range(table.size), repeat=4):
                self.assertIs(parted_walks(table, x, y, z, u) is None, parted_walks(turned, y, x, u, z) is None)


class Rings(unittest.TestCase):
    def test_point_9_rings_of_an_arrow_are_closed_walks(self):
        for table in TABLES:
            for a, b in table:
                found = rings_with(table, a, b)
                self.assertEqual(len(found), len(walks(table, b, a)))
                self.assertEqual(len(set(found)), len(found))
                self.assertEqual(found, [ring for ring in rings(table) if (a, b) in ring_arrows(ring)])


class Trees(unittest.TestCase):
    def test_point_10_the_only_tree_leads_to_its_root(self):
        for chain in CHAINS:
            for c in range(chain.size):
                tree = only_tree(chain, c)
                if tree is not None:
                    self.assertEqual(slow_trees(chain, c), [tree])
                    self.assertEqual([x for x in range(chain.size) if tree[x] == x], [c])
                    self.assertTrue(all((x, head) in chain for x, head in enumerate(tree) if x != c))

    def test_point_11_three_ways_to_say_one_tree(self):
        for chain in CHAINS:
            for c in range(chain.size):
                one = len(slow_trees(chain, c)) == 1
                self.assertIs(only_tree(chain, c) is not None, one)
                self.assertIs(all(len(walks(chain, x, c)) == 1 for x in range(chain.size)), one)
                self.assertIs(ungated(chain, c) is None, one)

    def test_point_12_four_ways_to_say_hanging(self):
        for chain in CHAINS:
            hanging = is_hanging(chain)
            self.assertIs(all(len(slow_trees(chain, c)) == 1 for c in range(chain.size)), hanging)
            self.assertIs(second_walk(chain) is None, hanging)
            self.assertIs(all(len(rings_with(chain, a, b)) == 1 for a, b in chain), hanging)
            self.assertIs(crossing_rings(chain) is None, hanging)
            if hanging:
                self.assertEqual(len(chain), chain.size - 1 + len(rings(chain)))

    def test_point_12_the_number_of_arrows_is_not_enough(self):
        chain = Chain.of_arrows(4, [(0, 1), (1, 2), (2, 0), (0, 3), (3, 2)])
        self.assertEqual((len(chain), chain.size - 1 + len(rings(chain))), (5, 5))
        self.assertIs(is_hanging(chain), False)


if __name__ == "__main__":
    unittest.main()
