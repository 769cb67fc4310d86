"""The facts that points 50 to 52, 54 to 56 and 59 of the document state of two tables and of one rate raised."""

import unittest
from fractions import Fraction
from itertools import permutations, product

from lastingshares.comings import chance, coming_row
from lastingshares.compared import (chance_gap, chance_terms, long_gap, long_terms, mean_gap, mean_terms, ratio_gap,
                                    ratio_terms, share_gap)
from lastingshares.growth import factor, rate_for, run_ends, step_of
from lastingshares.longs import mean_time
from lastingshares.pushes import push, share_push
from lastingshares.single import Faster, moves_chance, moves_ratio, moves_share, moves_time
from lastingshares.tables import Table
from lastingshares.trees import tree_row
from lastingshares.walks import has_walk, is_gate
from support import CHAINS, GREAT, MIXED, SHAPES, complete, several_rates, sign, slow_forests

FEW = MIXED[::2]
RAISED = [chain for shape in SHAPES[1:80:5] + SHAPES[85::12] for chain in several_rates(shape)[1:4]]
ROWS = [(3, -1, 4, -1, 5), (10 ** 12, 0, -10 ** 12, 7, 2)]
EIGHT = Table([[0 if x == y or (x * y) % 5 == 4 else 10 ** 12 - 7 * x + y for y in range(8)] for x in range(8)])
OTHER = Table([[0 if x == y or (x + y) % 6 == 5 else 3 ** (x + y) for y in range(8)] for x in range(8)])


def two_tables():
    for size in (2, 3, 4, 5):
        group = [table for table in MIXED if table.size == size]
        yield from zip(group, group[2:])
    yield GREAT[8], GREAT[12]


class Pushes(unittest.TestCase):
    def test_point_50(self):
        for table in FEW:
            row = tree_row(table)
            for a, b in table.pairs_of(table.size):
                for c, e in table.pairs_of(table.size):
                    found = push(table, a, b, c, e)
                    both = row[e] * share_push(table, a, b, c) - row[c] * share_push(table, a, b, e)
                    self.assertEqual(sum(row) * found, both)
                    if a not in (c, e):
                        to_c, to_e = coming_row(table, c, a)[b], coming_row(table, e, a)[b]
                        self.assertEqual(row[a] * found, row[e] * to_c - row[c] * to_e)
                for c, e, g in permutations(range(table.size), 3):
                    total = row[g] * push(table, a, b, c, e) + row[c] * push(table, a, b, e, g)
                    self.assertEqual(total + row[e] * push(table, a, b, g, c), 0)


class TwoTables(unittest.TestCase):
    def check_sums(self, old, new, x, c, e, row):
        for gap, terms in ((ratio_gap(old, new, c, e), ratio_terms(old, new, c, e)),
                           (mean_gap(old, new, row), mean_terms(old, new, row)),
                           (chance_gap(old, new, x, c, e), chance_terms(old, new, x, c, e)),
                           (long_gap(old, new, x, c), long_terms(old, new, x, c))):
            self.assertEqual(sum(term for _, _, term in terms), gap)
        unit = [1 if state == c else 0 for state in range(old.size)]
        self.assertEqual(share_gap(old, new, c), sum(term for _, _, term in mean_terms(old, new, unit)))

    def test_point_51(self):
        for old, new in two_tables():
            for c, e in old.pairs_of(old.size)[::2]:
                for x in range(old.size):
                    self.check_sums(old, new, x, c, e, ROWS[x % 2][:old.size])

    def test_point_51_eight_states(self):
        row = [3, 1, -4, 1, 5, -9, 2, 6]
        for old, new in ((EIGHT, OTHER), (OTHER, EIGHT), (EIGHT, complete(8)), (EIGHT, EIGHT.with_rate(1, 2, 0))):
            for x, c, e in ((0, 1, 2), (3, 3, 7), (5, 6, 5)):
                self.check_sums(old, new, x, c, e, row)
        self.assertEqual(ratio_gap(EIGHT, OTHER, 0, 1), -ratio_gap(OTHER, EIGHT, 0, 1))

    def test_point_52(self):
        for old, new in list(two_tables()) + [(EIGHT, OTHER)]:
            before = tree_row(old)
            for c, e in old.pairs_of(old.size)[:9]:
                total = 0
                for a, b in old.pairs_of(old.size):
                    total += before[a] * (new[a, b] - old[a, b]) * push(new, a, b, c, e)
                self.assertEqual(sum(term for _, _, term in ratio_terms(old, new, c, e)), total)


class OneRate(unittest.TestCase):
    def raises(self):
        for place, chain in enumerate(RAISED):
            for a, b in chain.pairs_of(chain.size):
                yield chain, Faster(a, b, (1, 5, 10 ** 12)[place % 3])(chain), a, b

    def test_point_54_ratios_and_shares(self):
        for chain, new, a, b in self.raises():
            before, after = tree_row(chain), tree_row(new)
            for c, e in chain.pairs_of(chain.size):
                self.assertEqual(moves_ratio(chain, a, b, c, e), sign(push(chain, a, b, c, e)))
                self.assertEqual(moves_ratio(chain, a, b, c, e), sign(after[c] * before[e] - before[c] * after[e]))
            for c in range(chain.size):
                self.assertEqual(moves_share(chain, a, b, c), sign(share_push(chain, a, b, c)))

    def test_point_54_times_and_chances(self):
        for chain, new, a, b in list(self.raises())[::3]:
            for x, c in product(range(chain.size), repeat=2):
                meets = has_walk(chain, x, a, without=(c,))
                moved = sign(Fraction(*mean_time(new, x, c)) - Fraction(*mean_time(chain, x, c)))
                self.assertEqual(moved, -sign(share_push(chain, a, b, c)) if meets else 0)
                self.assertEqual(moves_time(chain, a, b, x, c), moved)
                for e in range(chain.size):
                    if e == c:
                        continue
                    meets = has_walk(chain, x, a, without=(c, e))
                    moved = sign(Fraction(*chance(new, x, c, e)) - Fraction(*chance(chain, x, c, e)))
                    self.assertEqual(moved, sign(push(chain, a, b, c, e)) if meets else 0)
                    self.assertEqual(moves_chance(chain, a, b, x, c, e), moved)

    def test_point_55(self):
        equal = 0
        for chain, new, a, b in self.raises():
            rate, higher = chain[a, b], new[a, b]
            if rate == 0:
                continue
            before, after = tree_row(chain), tree_row(new)
            for c in range(chain.size):
                self.assertLess(after[c] * sum(before) * rate, before[c] * sum(after) * higher)
            for c, e in chain.pairs_of(chain.size):
                left, right = after[c] * before[e] * rate, before[c] * after[e] * higher
                self.assertLessEqual(left, right)
                every = all(tree[a] == b for tree in slow_forests(chain, [c]))
                none = not any(tree[a] == b for tree in slow_forests(chain, [e]))
                self.assertIs(left == right, every and none)
                equal += every and none
        self.assertGreater(equal, 0)

    def test_point_56(self):
        words = set()
        for chain, new, a, b in self.raises():
            by = new[a, b] - chain[a, b]
            factors = [Fraction(*factor(chain, a, b, by, c)) for c in range(chain.size)]
            self.assertEqual(factors, [Fraction(*two) for two in zip(tree_row(new), tree_row(chain))])
            self.assertEqual(factors[a], 1)
            self.assertGreater(factors[b], 1)
            for c in range(chain.size):
                word = step_of(chain, a, b, c)
                words.add(word)
                self.assertIs(factors[c] == factors[b], word == "head")
                self.assertIs(factors[c] == 1, word == "tail")
                self.assertTrue(1 <= factors[c] <= factors[b])
                self.assertIs(word == "head", is_gate(chain, a, b, c))
                self.assertIs(word == "tail", is_gate(chain, b, a, c))
        self.assertEqual(words, {"head", "tail", "between"})

    def test_point_56_words_depend_on_the_shape_alone(self):
        for chain in CHAINS[::5]:
            for a, b in chain.pairs_of(chain.size):
                for c in range(chain.size):
                    found = {step_of(rates, a, b, c) for rates in several_rates(chain)}
                    self.assertEqual(len(found), 1)


class Running(unittest.TestCase):
    def four_states(self, table):
        for a, b in table.pairs_of(table.size):
            for c, e in table.pairs_of(table.size):
                if a not in (c, e):
                    yield a, b, c, e

    def test_point_59_ends(self):
        for table in FEW[::2] + RAISED[::3]:
            for a, b, c, e in self.four_states(table):
                ends = run_ends(table, a, b, c, e)
                for rate in (0, 1, 9, 10 ** 12):
                    new = Table(table.rows).with_rate(a, b, rate)
                    self.assertEqual(run_ends(new, a, b, c, e), ends)
                    row = tree_row(new)
                    (start_c, start_e), (step_c, step_e) = ends
                    self.assertEqual((row[c], row[e]), (start_c + rate * step_c, start_e + rate * step_e))

    def test_point_59_the_ratio_moves_one_way(self):
        for chain in RAISED:
            for a, b, c, e in self.four_states(chain):
                (start_c, start_e), (step_c, step_e) = run_ends(chain, a, b, c, e)
                way = sign(push(chain, a, b, c, e))
                ratios = [Fraction(start_c + r * step_c, start_e + r * step_e) for r in (1, 2, 50, 10 ** 9)]
                moves = {sign(later - earlier) for earlier, later in zip(ratios, ratios[1:])}
                self.assertEqual(moves, {way})
                if way:
                    self.assertTrue((start_c or start_e) and (step_c or step_e))

    def test_point_59_the_one_rate(self):
        for chain in RAISED[::2]:
            for a, b, c, e in self.four_states(chain):
                (start_c, start_e), (step_c, step_e) = run_ends(chain, a, b, c, e)
                way = push(chain, a, b, c, e)
                for u, v in ((1, 1), (1, 7), (9, 2)):
                    found = rate_for(chain, a, b, c, e, u, v)
                    missing, growing = u * start_e - v * start_c, v * step_c - u * step_e
                    if way != 0 and missing * growing > 0:
                        rate = Fraction(*found)
                        self.assertEqual((start_c + rate * step_c) * v, (start_e + rate * step_e) * u)
                        self.assertEqual(rate, Fraction(missing, growing))
                    else:
                        self.assertIsNone(found)


if __name__ == "__main__":
    unittest.main()
