"""The facts that points 76 to 86 of the document state of two and more arrows."""

import unittest
from itertools import combinations, product

from lastingshares.couples import couple_rates, couple_verdict, couple_walks
from lastingshares.falls import by_pushes, by_shares, fall, fall_to
from lastingshares.longs import long
from lastingshares.many import push_square, rounds, square_sum, third_sum
from lastingshares.parted import separating
from lastingshares.pushes import push, push_rows, share_push
from lastingshares.rooted import falls_out, falls_out_total, rooted_rates, rooted_verdict
from lastingshares.shapes import is_hanging
from lastingshares.single import Faster
from lastingshares.sums import determinant
from lastingshares.tables import Table
from lastingshares.trees import holding, holding_all, tree_row
from lastingshares.verdicts import ratio_verdict, share_verdict
from lastingshares.walks import is_gate
from support import GREAT, MIXED, SHAPES, several_rates, sign

TABLES = MIXED[::2] + GREAT[8:11]
FEW = SHAPES[:19] + SHAPES[19:80:7] + SHAPES[82::12]
EIGHT = Table([[0 if x == y or (x * y) % 5 == 4 else 10 ** 12 - 7 * x + y for y in range(8)] for x in range(8)])


def two_arrows(table):
    return [(one, other) for one, other in product(table.arrows(), repeat=2) if one != other]


def two_tails(chain):
    return [(one, other) for one, other in two_arrows(chain) if one[0] != other[0]]


class Falls(unittest.TestCase):
    def test_point_76_trees(self):
        for table in TABLES:
            for one, other in two_arrows(table)[::2]:
                for c in range(table.size):
                    both = holding(table, [one], c) * holding(table, [other], c)
                    self.assertEqual(fall_to(table, one, other, c),
                                     both - holding(table, [], c) * holding(table, [one, other], c))
                both = holding_all(table, [one]) * holding_all(table, [other])
                self.assertEqual(fall(table, one, other),
                                 both - holding_all(table, []) * holding_all(table, [one, other]))

    def test_point_76_the_order_of_the_arrows_does_not_matter(self):
        for table in TABLES[::3]:
            for one, other in two_arrows(table):
                self.assertEqual(fall(table, one, other), fall(table, other, one))
                self.assertEqual(fall_to(table, one, other, 1), fall_to(table, other, one, 1))

    def test_point_77_pushes(self):
        for table in TABLES + [EIGHT]:
            for one, other in two_arrows(table)[::50 if table.size == 8 else 2]:
                (a, b), (g, h) = one, other
                rates = table[a, b] * table[g, h]
                for c in range(table.size):
                    expected = 0
                    if c not in (a, g):
                        expected = rates * push(table, a, b, c, g) * push(table, g, h, c, a)
                    self.assertEqual(fall_to(table, one, other, c), expected)
                    self.assertEqual(by_pushes(table, one, other, c), expected)
                expected = rates * share_push(table, a, b, g) * share_push(table, g, h, a)
                self.assertEqual(fall(table, one, other), expected)
                self.assertEqual(by_shares(table, one, other), expected)
                longs = (long(table, a, g) - long(table, b, g)) * (long(table, g, a) - long(table, h, a))
                self.assertEqual(expected, rates * longs)

    def test_point_78_sums_over_the_arrows_out_of_a_state(self):
        for table in TABLES + [EIGHT]:
            row = tree_row(table)
            for one in table.arrows()[::9 if table.size == 8 else 1]:
                a, b = one
                for s in range(table.size):
                    for c in range(table.size):
                        found = sum(number for _, number in falls_out(table, one, s, c))
                        held = holding(table, [one], c)
                        self.assertEqual(found, held * (row[c] - held) if s == a else 0)
                    found = sum(number for _, number in falls_out_total(table, one, s))
                    held = holding_all(table, [one])
                    if s == a:
                        self.assertEqual(found, held * (sum(row) - row[a] - held))
                    else:
                        self.assertEqual(found, table[a, b] * row[a] * share_push(table, a, b, s))
                others = [s for s in range(table.size) if s != a]
                found = sum(number for s in others for _, number in falls_out_total(table, one, s))
                self.assertEqual(found, row[a] * holding_all(table, [one]))

    def test_point_79(self):
        for table in TABLES + SHAPES[::9]:
            for one in table.arrows():
                a, b = one
                for c, s in table.pairs_of(table.size):
                    if a in (c, s):
                        continue
                    none = all(number == 0 for _, number in falls_out(table, one, s, c))
                    others = [push(table, s, y, c, a) for y in table.heads(s)]
                    self.assertIs(none, push(table, a, b, c, s) == 0 or not any(others))

    def test_point_79_all_rates(self):
        for chain in FEW:
            for one in chain.arrows():
                for c, s in chain.pairs_of(chain.size):
                    if one[0] not in (c, s) and ratio_verdict(chain, *one, c, s) == "still":
                        for rates in several_rates(chain)[:3]:
                            self.assertEqual([number for _, number in falls_out(rates, one, s, c) if number], [])


class Couples(unittest.TestCase):
    def test_point_80(self):
        words = {(True, False): "lifts", (False, True): "lowers", (True, True): "mixed"}
        for chain in SHAPES:
            for one, other in two_tails(chain):
                found = couple_walks(chain, one, other)
                self.assertEqual(share_verdict(chain, *one, other[0]), words[found[:2]])
                self.assertEqual(share_verdict(chain, *other, one[0]), words[found[2:]])

    def test_point_81_words(self):
        for chain in SHAPES:
            both = False
            for one, other in two_tails(chain):
                (a, b), (g, h) = one, other
                word = couple_verdict(chain, one, other)
                up, down, other_up, other_down = couple_walks(chain, one, other)
                self.assertIs(word in ("contrary", "both"), up and other_up or down and other_down)
                self.assertIs(word in ("helpful", "both"), up and other_down or down and other_up)
                b_gates, a_gates = is_gate(chain, a, b, g), is_gate(chain, b, a, g)
                h_gates, g_gates = is_gate(chain, g, h, a), is_gate(chain, h, g, a)
                self.assertIs(word == "contrary", b_gates and h_gates or a_gates and g_gates)
                self.assertIs(word == "helpful", b_gates and g_gates or a_gates and h_gates)
                if other == (b, a):
                    self.assertEqual(word, "contrary")
                both = both or word == "both"
            self.assertIs(is_hanging(chain), not both)

    def test_point_81_rates(self):
        for chain in FEW:
            for one, other in two_tails(chain)[::2]:
                word = couple_verdict(chain, one, other)
                for wanted, way in (("contrary", 1), ("helpful", -1)):
                    rates = couple_rates(chain, one, other, wanted)
                    self.assertIs(rates is not None, word in (wanted, "both"))
                    self.assertTrue(rates is None or sign(fall(rates, one, other)) == way)

    def test_point_81_hanging_chains(self):
        for chain in [chain for chain in SHAPES if is_hanging(chain)]:
            for rates in several_rates(chain)[:3]:
                for one, other in two_tails(chain):
                    self.assertEqual([fall_to(rates, one, other, c) for c in range(chain.size)], [0] * chain.size)

    def test_point_82(self):
        for shape in FEW:
            chain = several_rates(shape)[3]
            row = tree_row(chain)
            for place, (one, other) in enumerate(two_tails(chain)):
                (a, b), (g, h) = one, other
                first, second = tree_row(Faster(a, b, 2)(chain)), tree_row(Faster(g, h, 3 + place)(chain))
                moved = (first[g] * sum(row) - row[g] * sum(first)) * (second[a] * sum(row) - row[a] * sum(second))
                pushes = share_push(chain, a, b, g) * share_push(chain, g, h, a)
                self.assertEqual(moved, 2 * (3 + place) * row[a] * row[g] * pushes)
                self.assertEqual(sign(moved), sign(fall(chain, one, other)))

    def test_point_83(self):
        for chain in FEW:
            for one, other in two_tails(chain):
                (a, b), (g, h) = one, other
                for c in range(chain.size):
                    if c in (a, g):
                        continue
                    word = rooted_verdict(chain, one, other, c)
                    first, second = ratio_verdict(chain, a, b, c, g), ratio_verdict(chain, g, h, c, a)
                    parted = separating(chain, a, b, c, g) is None and separating(chain, g, h, c, a) is None
                    self.assertIs(word == "none", not parted)
                    if parted:
                        mixed = (first, second).count("mixed")
                        alike = "contrary" if first == second else "helpful"
                        self.assertEqual(word, [alike, "both", "open"][mixed])
                    signs = {sign(fall_to(rates, one, other, c)) for rates in several_rates(chain)[:3]}
                    self.assertLessEqual(signs, {"none": {0}, "contrary": {1}, "helpful": {-1}}.get(word, {-1, 0, 1}))
                    for way, fitting in ((1, "contrary"), (-1, "helpful")):
                        rates = rooted_rates(chain, one, other, c, way)
                        self.assertIs(rates is not None, word in (fitting, "both"))
                        self.assertTrue(rates is None or sign(fall_to(rates, one, other, c)) == way)


class ManyArrows(unittest.TestCase):
    def test_point_84(self):
        for table in TABLES + [EIGHT]:
            pairs = table.pairs_of(table.size)
            for (a, b), (g, h) in list(product(pairs, pairs))[::170 if table.size == 8 else 3]:
                if (a, b) == (g, h):
                    continue
                first, second = Faster(a, b, 3)(table), Faster(g, h, 5)(table)
                rows = [tree_row(one) for one in (table, first, second, Faster(g, h, 5)(first))]
                for c in range(table.size):
                    if c not in (a, g):
                        found = rows[1][c] * rows[2][c] - rows[0][c] * rows[3][c]
                        self.assertEqual(found, 15 * push(table, a, b, c, g) * push(table, g, h, c, a))
                        self.assertEqual(push(first, a, b, c, g), push(table, a, b, c, g))
                        self.assertEqual(push(second, a, b, c, g), push(table, a, b, c, g))
                totals = [sum(row) for row in rows]
                found = totals[1] * totals[2] - totals[0] * totals[3]
                self.assertEqual(found, 15 * share_push(table, a, b, g) * share_push(table, g, h, a))

    def some_sets(self, table):
        arrows = table.arrows()
        found = [held for many in (1, 2, 3, 4) for held in list(combinations(arrows, many))[::7 + 20 * (many > 2)]]
        return found if table.size < 8 else [arrows[::6], arrows[3::9], arrows[:2]]

    def test_point_85(self):
        for table in TABLES + [EIGHT]:
            for held in self.some_sets(table):
                rates = 1
                for x, y in held:
                    rates *= table[x, y]
                for c in range(table.size):
                    if c in [a for a, _ in held]:
                        continue
                    square = push_square(table, held[::-1], c)
                    pushes = [push_rows(table, c, g) for g, _ in held]
                    self.assertEqual(square, tuple(tuple(rows[a][b] for rows in pushes) for a, b in held))
                    found = holding(table, held, c) * holding(table, [], c) ** (len(held) - 1)
                    self.assertEqual(found, rates * determinant(square))
                    self.assertEqual(square_sum(table, held, c), found)
                square = [[-share_push(table, a, b, g) for g, _ in held] for a, b in held]
                found = holding_all(table, held) * holding_all(table, []) ** (len(held) - 1)
                self.assertEqual(found, rates * determinant(square))

    def test_point_86(self):
        for table in TABLES + [EIGHT]:
            for three in list(combinations(table.arrows(), 3))[::3000 if table.size == 8 else 11]:
                for c in range(table.size):
                    found = third_sum(table, *three, c)
                    self.assertEqual(rounds(table, *three, c), found)
                    if c in [a for a, _ in three]:
                        self.assertEqual(found, 0)
                none, whole = holding_all(table, []), holding_all(table, three)
                ones = [holding_all(table, [arrow]) for arrow in three]
                twos = [holding_all(table, [arrow for arrow in three if arrow != left]) for left in three]
                found = none ** 2 * whole - none * sum(one * two for one, two in zip(ones, twos))
                found += 2 * ones[0] * ones[1] * ones[2]
                q = [[share_push(table, *arrow, other[0]) for other in three] for arrow in three]
                rates = table[three[0]] * table[three[1]] * table[three[2]]
                both = q[0][1] * q[1][2] * q[2][0] + q[0][2] * q[2][1] * q[1][0]
                self.assertEqual(found, -rates * both)


if __name__ == "__main__":
    unittest.main()
