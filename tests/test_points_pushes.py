"""The facts that points 46 to 49, 53, 57 and 58 of the document state of pushes."""

import unittest
from fractions import Fraction
from itertools import product

from lastingshares.forests import forests, lead
from lastingshares.longs import long
from lastingshares.pushes import (gainers, lifting, lowering, mean_push, parting, push, push_rows, share_push,
                                  share_pushes)
from lastingshares.sums import forest_row, forest_sum
from lastingshares.tables import Table
from lastingshares.trees import tree_row
from lastingshares.walks import is_gate
from support import CHAINS, MIXED, weight_of

FEW = MIXED[::2]
SEVERAL = CHAINS[::4]
ROWS = [(1, 1, 1, 1, 1), (3, -1, 4, -1, 5), (10 ** 12, 0, -10 ** 12, 7, 2)]


def word_of(chain, a, b, c):
    if is_gate(chain, a, b, c):
        return "head"
    return "tail" if is_gate(chain, b, a, c) else "between"


def with_row(table, x, rates):
    """The table with other rates out of x."""
    rows = [list(row) for row in table.rows]
    rows[x] = [0 if y == x else rate for y, rate in enumerate(rates[:table.size])]
    return Table(rows)


class Pushes(unittest.TestCase):
    def test_point_46_sums_of_forests(self):
        for table in FEW:
            for a, b in table.pairs_of(table.size):
                for c, e in table.pairs_of(table.size):
                    row = forest_row(table, c, [e])
                    self.assertEqual(push(table, a, b, c, e), row[b] - row[a])
                for c in range(table.size):
                    expected = sum(push(table, a, b, c, e) for e in range(table.size) if e != c)
                    self.assertEqual(share_push(table, a, b, c), expected)
                for row in ROWS:
                    expected = sum(f * share_push(table, a, b, c) for c, f in enumerate(row[:table.size]))
                    self.assertEqual(mean_push(table, a, b, row[:table.size]), expected)

    def test_point_47_lifting_and_lowering(self):
        for table in FEW:
            pairs = table.pairs_of(table.size)
            for (a, b), (c, e) in product(pairs, pairs):
                found = push(table, a, b, c, e)
                self.assertEqual(found, lifting(table, a, b, c, e) - lowering(table, a, b, c, e))
                self.assertEqual((push(table, a, b, e, c), push(table, b, a, c, e)), (-found, -found))
                rows = push_rows(table, c, e)
                for d in range(table.size):
                    self.assertEqual(rows[a][b] + rows[b][d], rows[a][d])

    def test_point_47_what_does_not_change(self):
        for table in FEW[::2]:
            for a, b in table.pairs_of(table.size):
                faster = table.with_rate(a, b, 999).with_rate(b, a, 77)
                for c, e in table.pairs_of(table.size):
                    found = push(table, a, b, c, e)
                    self.assertEqual(push(faster, a, b, c, e), found)
                    other = with_row(with_row(table, c, (0, 5, 0, 10 ** 12, 2)), e, (8, 0, 1, 3, 9))
                    self.assertEqual(push(other, a, b, c, e), found)

    def test_point_48_share_pushes(self):
        for table in FEW:
            for a, b in table.pairs_of(table.size):
                found = share_pushes(table, a, b)
                self.assertEqual(sum(found), 0)
                self.assertEqual(found, tuple(long(table, a, c) - long(table, b, c) for c in range(table.size)))
                faster = table.with_rate(a, b, 999).with_rate(b, a, 77)
                self.assertEqual(share_pushes(faster, a, b), found)
                for c in range(table.size):
                    other = with_row(table, c, (4, 5, 0, 10 ** 12, 2))
                    self.assertEqual(share_push(other, a, b, c), found[c])

    def test_point_48_means_by_forests_with_two_roots(self):
        for table in FEW[::2]:
            two = [(forest, weight_of(table, forest)) for c, e in table.pairs_of(table.size) if c < e
                   for forest in forests(table, [c, e])]
            for a, b in table.pairs_of(table.size):
                for row in ROWS:
                    f = row[:table.size]
                    expected = sum(weight * (f[lead(forest, b)] - f[lead(forest, a)]) for forest, weight in two)
                    self.assertEqual(mean_push(table, a, b, f), expected)

    def test_point_49_sums_over_the_heads(self):
        for table in FEW:
            row, states = tree_row(table), range(table.size)
            for c, e in table.pairs_of(table.size):
                rows = push_rows(table, c, e)
                found = [sum(table.rows[x][b] * rows[x][b] for b in states) for x in states]
                self.assertEqual(found, [{e: row[c], c: -row[e]}.get(x, 0) for x in states])
            for heights in ROWS:
                f = heights[:table.size]
                mean = sum(entry * number for entry, number in zip(f, row))
                for x in states:
                    found = sum(table[x, b] * mean_push(table, x, b, f) for b in states if b != x)
                    self.assertEqual(found, mean - f[x] * sum(row))

    def test_point_53_behind_another_change(self):
        for table in [table for table in MIXED if table.size > 2][::4]:
            pairs = table.pairs_of(table.size)
            for (g, h), (c, e) in product(pairs[::2], pairs[::3]):
                if g in (c, e):
                    continue
                new = table.with_rate(g, h, table[g, h] + 5)
                three = forest_row(table, g, [c, e])
                for a, b in pairs:
                    gap = forest_sum(table, [c, e]) * push(new, a, b, c, e)
                    gap -= forest_sum(new, [c, e]) * push(table, a, b, c, e)
                    self.assertEqual(gap, 5 * (three[b] - three[a]) * push(table, g, h, c, e))


class Bounds(unittest.TestCase):
    def test_point_57_pushes_on_shares(self):
        for table in MIXED:
            for a, b in table.pairs_of(table.size):
                self.assertLessEqual(sum(map(abs, share_pushes(table, a, b))), 2 * parting(table, a, b))
        for chain in SEVERAL:
            for a, b in chain.pairs_of(chain.size):
                words = [word_of(chain, a, b, c) for c in range(chain.size)]
                equal = sum(map(abs, share_pushes(chain, a, b))) == 2 * parting(chain, a, b)
                self.assertIs(equal, "between" not in words)

    def test_point_57_pushes_on_ratios(self):
        for table in FEW:
            for c, e in table.pairs_of(table.size):
                greatest = max(abs(entry) for row in push_rows(table, c, e) for entry in row)
                self.assertLessEqual(greatest, forest_sum(table, [c, e]))
        for chain in SEVERAL:
            pairs = chain.pairs_of(chain.size)
            for (a, b), (c, e) in product(pairs, pairs):
                up = is_gate(chain, a, e, c) and is_gate(chain, b, c, e)
                down = is_gate(chain, a, c, e) and is_gate(chain, b, e, c)
                equal = abs(push(chain, a, b, c, e)) == forest_sum(chain, [c, e])
                self.assertIs(equal, up or down)

    def test_point_58_gains(self):
        for chain in SEVERAL:
            row = tree_row(chain)
            for a, b in chain.pairs_of(chain.size):
                gains = [Fraction(found, number) for found, number in zip(share_pushes(chain, a, b), row)]
                for c, e in chain.pairs_of(chain.size):
                    found = push(chain, a, b, c, e)
                    self.assertEqual((found > 0) - (found < 0), (gains[c] > gains[e]) - (gains[c] < gains[e]))
                for c in range(chain.size):
                    word = word_of(chain, a, b, c)
                    self.assertIs(gains[c] == max(gains), word == "head")
                    self.assertIs(gains[c] == min(gains), word == "tail")
                order = gainers(chain, a, b)
                self.assertEqual(sorted(order), list(range(chain.size)))
                for c, e in zip(order, order[1:]):
                    self.assertTrue(gains[c] > gains[e] or (gains[c] == gains[e] and c < e))


if __name__ == "__main__":
    unittest.main()
