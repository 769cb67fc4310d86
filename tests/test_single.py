"""lastingshares.single: one rate raised, and which way ratios, shares, mean times and chances move."""

import unittest
from fractions import Fraction
from itertools import product

from lastingshares.chains import Chain
from lastingshares.errors import BadState, SameState
from lastingshares.single import Faster, moves_chance, moves_ratio, moves_share, moves_time
from lastingshares.tables import Table
from support import (SHAPES, TABLES, check_error, check_numbers_named, check_states_named, complete, empty,
                     several_rates, sign, slow_long, slow_sum, slow_trees_of)

CHAIN = Chain([[0, 1, 1], [1, 0, 2], [1, 0, 0]])
FEW = [chain for shape in SHAPES[:19] + SHAPES[19:65:9] + SHAPES[90::20] for chain in several_rates(shape)[1:4]]


def raised(table, a, b, by):
    rows = [list(row) for row in table.rows]
    rows[a][b] += by
    return type(table)(rows)


class Raises(unittest.TestCase):
    def test_each_pair(self):
        for table in TABLES[::7] + FEW[::9]:
            kept = table.rows
            for a, b in table.pairs_of(table.size):
                new = Faster(a, b, 3)(table)
                self.assertEqual((type(new), new.rows), (type(table), raised(table, a, b, 3).rows))
                self.assertEqual(table.rows, kept)

    def test_a_rate_of_0_is_raised_too(self):
        self.assertEqual(Faster(1, 0, 10 ** 12)(empty(2)).rows, ((0, 0), (10 ** 12, 0)))
        self.assertIs(type(Faster(0, 1, 1)(complete(8))), Chain)
        self.assertIs(type(Faster(0, 1, 1)(Table(complete(8).rows))), Table)

    def test_attributes(self):
        faster = Faster(2, 0, 5)
        self.assertEqual((faster.a, faster.b, faster.by), (2, 0, 5))
        self.assertEqual(tuple(Faster.__slots__), ("a", "b", "by"))
        self.assertFalse(hasattr(faster, "__dict__"))
        with self.assertRaises(AttributeError):
            faster.c = 1
        # It may be used again, for tables of several sizes.
        self.assertEqual([faster(table)[2, 0] for table in (empty(3), complete(4), faster(complete(8)))], [5, 6, 11])

    def test_word(self):
        self.assertEqual([Faster(0, 1, 2).word(), Faster(7, 3, 10 ** 12).word()], ["0 1 +2", "7 3 +1000000000000"])

    def test_errors(self):
        check_numbers_named(self, "by", lambda by: Faster(0, 1, by), least=1)
        check_numbers_named(self, "by", lambda by: Faster(9, True, by), least=1)
        for thing in (True, False, -1, 3, None, "0", (0,)):
            check_error(self, BadState(0), Faster(thing, 1, 1), CHAIN)
            check_error(self, BadState(0), Faster(thing, thing, 1), CHAIN)
            check_error(self, BadState(1), Faster(0, thing, 1), CHAIN)
        check_error(self, SameState(0, 1), Faster(2, 2, 1), CHAIN)
        self.assertEqual(Faster(2, 3, 1)(complete(4))[2, 3], 2)


class Moves(unittest.TestCase):
    """Each sign is compared with what a raise really does."""

    def each_raise(self):
        for chain in FEW:
            before = slow_trees_of(chain)
            for place, (a, b) in enumerate(chain.pairs_of(chain.size)):
                new = raised(chain, a, b, (1, 6, 10 ** 12)[place % 3])
                yield chain, new, before, slow_trees_of(new), a, b

    def test_ratios_and_shares(self):
        for chain, new, before, after, a, b in self.each_raise():
            for c, e in chain.pairs_of(chain.size):
                self.assertEqual(moves_ratio(chain, a, b, c, e), sign(after[c] * before[e] - before[c] * after[e]))
            for c in range(chain.size):
                moved = sign(after[c] * sum(before) - before[c] * sum(after))
                self.assertEqual(moves_share(chain, a, b, c), moved)

    def test_times(self):
        for chain, new, before, after, a, b in self.each_raise():
            for x, c in product(range(chain.size), repeat=2):
                moved = slow_long(new, x, c) * before[c] - slow_long(chain, x, c) * after[c]
                self.assertEqual(moves_time(chain, a, b, x, c), sign(moved))

    def test_chances(self):
        for chain, new, _, _, a, b in self.each_raise():
            for c, e in chain.pairs_of(chain.size)[::2]:
                for x in range(chain.size):
                    old = Fraction(slow_sum(chain, [c, e], [(x, c)]), slow_sum(chain, [c, e]))
                    moved = Fraction(slow_sum(new, [c, e], [(x, c)]), slow_sum(new, [c, e])) - old
                    self.assertEqual(moves_chance(chain, a, b, x, c, e), sign(moved))

    def test_edges(self):
        ring = Chain.around([1] * 8)
        self.assertEqual([moves_share(ring, 0, 1, c) for c in range(8)], [-1, 1, 1, 1, 1, 1, 1, 1])
        self.assertEqual([moves_time(ring, 0, 1, x, 4) for x in range(8)], [-1, 0, 0, 0, 0, -1, -1, -1])
        # From 3 the thing comes to 7 before it comes to 0; that 0 then goes on to 4 sooner changes nothing.
        self.assertEqual([moves_chance(ring, 0, 5, x, 7, 4) for x in range(8)], [1, 0, 0, 0, 0, 0, 0, 0])
        self.assertEqual([moves_ratio(complete(2), 0, 1, 1, 0), moves_ratio(complete(2), 0, 1, 0, 1)], [1, -1])
        self.assertEqual([moves_time(complete(2), 0, 1, x, c) for x, c in product((0, 1), repeat=2)], [0, -1, 0, 0])
        self.assertEqual([moves_chance(complete(8), 0, 1, x, 1, 2) for x in range(4)], [1, 0, 0, 1])
        self.assertEqual([moves_chance(complete(8), 1, 0, x, 1, 2) for x in range(4)], [0, 0, 0, 0])
        self.assertEqual([moves_ratio(complete(8), 0, 1, c, 2) for c in (0, 1, 3)], [-1, 1, 0])

    def test_errors(self):
        check_states_named(self, moves_ratio, CHAIN, (0, 1, 1, 2), same=((0, 1), (2, 3)))
        check_states_named(self, moves_ratio, CHAIN, (0, 1, 2, 2), same=((0, 1),))
        check_states_named(self, moves_share, CHAIN, (0, 1, 1), same=((0, 1),))
        check_states_named(self, moves_time, CHAIN, (0, 1, 2, 2), same=((0, 1),))
        check_states_named(self, moves_chance, CHAIN, (0, 1, 0, 1, 2), same=((0, 1), (3, 4)))
        check_states_named(self, moves_chance, CHAIN, (0, 1, 0, 2, 2), same=((0, 1),))


if __name__ == "__main__":
    unittest.main()
