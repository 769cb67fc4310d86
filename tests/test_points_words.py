"""The facts that points 61 to 75 of the document state of all rates at once."""

import unittest
from itertools import permutations, product

from lastingshares.carried import current_rows
from lastingshares.chains import Chain, same_shape
from lastingshares.forests import lead
from lastingshares.means import linked, lot_lowerer, lot_verdict, mean_rates, mean_verdict
from lastingshares.pairings import lifting_forest, lifting_walks, lowering_forest, lowering_walks
from lastingshares.parted import parted_walks, separating
from lastingshares.pushes import mean_push, parting, push, share_push, share_pushes
from lastingshares.rates import forested, level_rates, lifted_rates, lowered_rates, share_rates
from lastingshares.shapes import is_hanging, only_tree
from lastingshares.sums import forest_sum
from lastingshares.tables import Table
from lastingshares.timing import chance_verdict, time_verdict
from lastingshares.trees import tree_row
from lastingshares.verdicts import mixed_arrows, one_way, ratio_verdict, share_verdict, still_classes
from lastingshares.walks import has_walk, is_gate
from support import SHAPES, all_lots, all_shapes, several_rates, slow_forests

FEW = SHAPES[:19] + SHAPES[19:80:6] + SHAPES[81::11]
SMALL = SHAPES[:19] + SHAPES[19:80:10]
ROWS = [(0, 1, 2, 0, 1), (2, 2, 2, 2, 2), (0, 0, 1, 2, 0), (5, -1, 0, 3, 3)]
NOT_BELOW = ("lifts", "still")
OPPOSITE = {"lifts": "lowers", "lowers": "lifts", "still": "still", "mixed": "mixed"}


def word_table(chain, c, e):
    """The ratio word of each pair on c against e."""
    return {(a, b): ratio_verdict(chain, a, b, c, e) for a, b in chain.pairs_of(chain.size)}


def two_rooted(chain, c=None):
    """All forests with exactly two roots, of which c is one if it is named."""
    return [(forest, {x, y}) for x, y in chain.pairs_of(chain.size) if x < y and (c is None or c in (x, y))
            for forest in slow_forests(chain, [x, y])]


class RatioWords(unittest.TestCase):
    def test_points_61_and_62_words_depend_on_the_shape_alone(self):
        for chain in SMALL:
            for other in several_rates(chain)[2:4]:
                for a, b in chain.pairs_of(chain.size):
                    self.assertEqual(linked(other, a, b), linked(chain, a, b))
                    self.assertEqual(still_classes(other, a, b), still_classes(chain, a, b))
                    for c, e in chain.pairs_of(chain.size):
                        for call in (ratio_verdict, lifting_walks, lowering_walks, lifting_forest, lowering_forest):
                            self.assertEqual(call(other, a, b, c, e), call(chain, a, b, c, e))

    def test_point_63(self):
        for chain in FEW:
            for a, b in chain.pairs_of(chain.size):
                for c, e in chain.pairs_of(chain.size):
                    up, down = lifting_walks(chain, a, b, c, e), lowering_walks(chain, a, b, c, e)
                    self.assertEqual(up is not None, lifted_rates(chain, a, b, c, e) is not None)
                    self.assertEqual(down is not None, lowered_rates(chain, a, b, c, e) is not None)
                    word = ratio_verdict(chain, a, b, c, e)
                    self.assertEqual(word, {(True, True): "mixed", (True, False): "lifts", (False, True): "lowers",
                                            (False, False): "still"}[up is not None, down is not None])
                    self.assertIs(word == "still", separating(chain, a, b, c, e) is not None)

    def test_point_64(self):
        for chain in FEW:
            for a, b in chain.pairs_of(chain.size):
                for c, e in chain.pairs_of(chain.size):
                    up, down = lifting_forest(chain, a, b, c, e), lowering_forest(chain, a, b, c, e)
                    if up is not None:
                        self.assertEqual((lead(up, b), lead(up, a)), (c, e))
                    if down is not None:
                        self.assertEqual((lead(down, b), lead(down, a)), (e, c))

    def test_point_65(self):
        for chain in SHAPES:
            for a, b in chain.pairs_of(chain.size):
                self.assertEqual(ratio_verdict(chain, a, b, b, a), "lifts")
                for c, e in chain.pairs_of(chain.size):
                    word = ratio_verdict(chain, a, b, c, e)
                    if c == b or e == a:
                        self.assertIn(word, NOT_BELOW)
                    if c == a or e == b:
                        self.assertIn(word, ("lowers", "still"))
                    four = len({a, b, c, e}) == 4
                    self.assertTrue(four or word != "mixed")
                    if four and chain.size == 4:
                        arrows = all(pair in chain for pair in ((a, c), (a, e), (b, c), (b, e)))
                        self.assertIs(word == "mixed", arrows)

    def test_point_66_words_fit_together(self):
        for chain in FEW:
            for c, e in chain.pairs_of(chain.size):
                words = word_table(chain, c, e)
                for a, b, d in permutations(range(chain.size), 3):
                    two = (words[a, b], words[b, d])
                    if all(word in NOT_BELOW for word in two):
                        self.assertEqual(words[a, d], "lifts" if "lifts" in two else "still")
            for a, b in chain.pairs_of(chain.size):
                for c, e, g in permutations(range(chain.size), 3):
                    two = (ratio_verdict(chain, a, b, c, e), ratio_verdict(chain, a, b, e, g))
                    if all(word in NOT_BELOW for word in two):
                        self.assertEqual(ratio_verdict(chain, a, b, c, g), "lifts" if "lifts" in two else "still")

    def test_point_66_classes(self):
        for chain in SHAPES:
            for a, b in chain.pairs_of(chain.size):
                classes = still_classes(chain, a, b)
                self.assertEqual(sorted(c for states in classes for c in states), list(range(chain.size)))
                self.assertEqual(classes, sorted(classes))
                heads = tuple(c for c in range(chain.size) if is_gate(chain, a, b, c))
                tails = tuple(c for c in range(chain.size) if is_gate(chain, b, a, c))
                self.assertTrue(heads in classes and tails in classes)
                for states in classes:
                    for c, e in chain.pairs_of(chain.size):
                        if c in states:
                            self.assertIs(e in states, ratio_verdict(chain, a, b, c, e) == "still")

    def test_point_67(self):
        changed = 0
        for chain in SMALL:
            for a, b in chain.pairs_of(chain.size):
                for c, e in chain.pairs_of(chain.size):
                    word = ratio_verdict(chain, a, b, c, e)
                    for x, y in chain.pairs_of(chain.size):
                        more = chain if (x, y) in chain else chain.with_rate(x, y, 1)
                        if (x, y) in ((a, b), (b, a)) or x in (c, e):
                            self.assertEqual(ratio_verdict(more, a, b, c, e), word)
                            changed += more != chain
                        elif word == "mixed":
                            self.assertEqual(ratio_verdict(more, a, b, c, e), "mixed")
        self.assertGreater(changed, 0)

    def test_point_68(self):
        for chain in SMALL:
            turned = ~chain
            row = tree_row(chain)
            currents = Table(current_rows(chain))
            for a, b in chain.pairs_of(chain.size):
                for c, e in chain.pairs_of(chain.size):
                    self.assertEqual(ratio_verdict(turned, e, c, b, a), ratio_verdict(chain, a, b, c, e))
                    expected = push(chain, a, b, c, e)
                    for x in range(chain.size):
                        expected *= 1 if x in (c, e) else row[x]
                    self.assertEqual(push(currents, a, b, c, e), expected)
                    self.assertEqual(push(~currents, e, c, b, a), expected)


class Rates(unittest.TestCase):
    def test_point_69_ratios(self):
        for chain in SMALL:
            for c, e in chain.pairs_of(chain.size):
                ones = forested(chain, list(range(chain.size)), 1)
                number = forest_sum(ones, (c, e))
                for forest in slow_forests(chain, [c, e])[::3]:
                    rates = forested(chain, forest, number + 1)
                    for a, b in chain.pairs_of(chain.size):
                        if (lead(forest, b), lead(forest, a)) == (c, e):
                            self.assertGreater(push(rates, a, b, c, e), 0)
                        elif (lead(forest, b), lead(forest, a)) == (e, c):
                            self.assertLess(push(rates, a, b, c, e), 0)

    def test_point_69_shares(self):
        for chain in SMALL:
            for c in range(chain.size):
                found = two_rooted(chain, c)
                for forest, _ in found[::4]:
                    rates = forested(chain, forest, len(found) + 1)
                    for a, b in chain.pairs_of(chain.size):
                        leads = (lead(forest, b) == c) - (lead(forest, a) == c)
                        if leads:
                            self.assertGreater(share_push(rates, a, b, c) * leads, 0)

    def test_point_69_means(self):
        for chain in SMALL:
            found = two_rooted(chain)
            for row in ROWS:
                f = row[:chain.size]
                for forest, _ in found[::7]:
                    rates = forested(chain, forest, (max(f) - min(f)) * len(found) + 1)
                    for a, b in chain.pairs_of(chain.size)[::2]:
                        rise = f[lead(forest, b)] - f[lead(forest, a)]
                        if rise:
                            self.assertGreater(mean_push(rates, a, b, f) * rise, 0)

    def test_point_70(self):
        for chain in SMALL:
            for a, b in chain.pairs_of(chain.size):
                for c, e in chain.pairs_of(chain.size):
                    level = level_rates(chain, a, b, c, e)
                    self.assertIs(level is not None, ratio_verdict(chain, a, b, c, e) in ("still", "mixed"))
                    self.assertTrue(level is None or push(level, a, b, c, e) == 0)
                for c in range(chain.size):
                    level = share_rates(chain, a, b, c, 0)
                    self.assertIs(level is not None, share_verdict(chain, a, b, c) == "mixed")
                    self.assertTrue(level is None or share_push(level, a, b, c) == 0)
                for row in ROWS:
                    f = row[:chain.size]
                    level = mean_rates(chain, a, b, f, 0)
                    self.assertIs(level is not None, mean_verdict(chain, a, b, f) in ("still", "mixed"))
                    self.assertTrue(level is None or (mean_push(level, a, b, f) == 0 and same_shape(level, chain)))


class ShareWords(unittest.TestCase):
    def test_point_71(self):
        for chain in SHAPES:
            for a, b in chain.pairs_of(chain.size):
                for c in range(chain.size):
                    word = share_verdict(chain, a, b, c)
                    self.assertIs(word in ("lifts", "mixed"), has_walk(chain, b, c, without=(a,)))
                    self.assertIs(word in ("lowers", "mixed"), has_walk(chain, a, c, without=(b,)))
                    self.assertNotEqual(word, "still")
                    self.assertIs(word == "lifts", is_gate(chain, a, b, c))
                    self.assertIs(word == "lowers", is_gate(chain, b, a, c))
                    others = [e for e in range(chain.size) if e != c]
                    words = [ratio_verdict(chain, a, b, c, e) for e in others]
                    self.assertIs(word == "lifts", all(found in NOT_BELOW for found in words))
                    self.assertIs(word == "lifts", c == b or ratio_verdict(chain, a, b, c, b) == "still")
                    self.assertIs(word == "lowers", c == a or ratio_verdict(chain, a, b, c, a) == "still")
                    for e, found in zip(others, words):
                        if word == "lifts" and share_verdict(chain, a, b, e) == "lowers":
                            self.assertEqual(found, "lifts")

    def test_point_71_three_states(self):
        for table in all_shapes(3)[::5] + [Table([[0, 5, 2], [7, 0, 9], [1, 1, 0]])]:
            for a, b, c in permutations(range(3)):
                self.assertEqual(share_push(table, a, b, c), table[b, c] - table[a, c])

    def test_point_74_times(self):
        words = {"lifts": "sooner", "lowers": "later", "mixed": "mixed"}
        for chain in SHAPES[:80]:
            for a, b in chain.pairs_of(chain.size):
                for x, c in product(range(chain.size), repeat=2):
                    word = time_verdict(chain, a, b, x, c)
                    self.assertEqual(word, "still" if is_gate(chain, x, c, a) else words[share_verdict(chain, a, b, c)])
                    if c == a or x == c:
                        self.assertEqual(word, "still")

    def test_point_74_chances(self):
        for chain in FEW:
            for a, b in chain.pairs_of(chain.size):
                for c, e in chain.pairs_of(chain.size):
                    for x in range(chain.size):
                        meets = has_walk(chain, x, a, without=(c, e))
                        word = chance_verdict(chain, a, b, x, c, e)
                        self.assertEqual(word, ratio_verdict(chain, a, b, c, e) if meets else "still")
                        if a in (c, e):
                            self.assertEqual(word, "still")

    def test_point_75(self):
        for chain in SHAPES:
            ways = [one_way(chain, c) for c in range(chain.size)]
            for c, way in enumerate(ways):
                tree = only_tree(chain, c)
                self.assertIs(way, tree is not None)
                words = {(a, b): share_verdict(chain, a, b, c) for a, b in chain}
                self.assertIs(way, "mixed" not in words.values())
                if way:
                    self.assertEqual([pair for pair in words if words[pair] == "lifts"],
                                     [(a, b) for a, b in chain if a != c and tree[a] == b])
                    self.assertLessEqual(set(words.values()), {"lifts", "lowers"})
                    for e in range(chain.size):
                        self.assertTrue(e == c or mixed_arrows(chain, c, e) == [])
            self.assertIs(all(ways), is_hanging(chain))
            twice = [sum(map(abs, share_pushes(chain, a, b))) == 2 * parting(chain, a, b) for a, b in chain]
            self.assertIs(all(ways), all(twice))
            if all(ways):
                for c, e in chain.pairs_of(chain.size):
                    self.assertNotIn("mixed", word_table(chain, c, e).values())


class Means(unittest.TestCase):
    def test_point_72(self):
        for chain in SHAPES:
            for a, b in chain.pairs_of(chain.size):
                links = linked(chain, a, b)
                self.assertIn((b, a), links)
                for c, e in chain.pairs_of(chain.size):
                    self.assertIs((c, e) in links, parted_walks(chain, b, c, a, e) is not None)

    def test_point_72_words(self):
        for chain in SMALL:
            for a, b in chain.pairs_of(chain.size):
                links = linked(chain, a, b)
                words = set()
                for row in product(range(3), repeat=chain.size):
                    word = mean_verdict(chain, a, b, row)
                    self.assertIs(word in ("lifts", "mixed"), any(row[c] > row[e] for c, e in links))
                    self.assertIs(word in ("lowers", "mixed"), any(row[c] < row[e] for c, e in links))
                    self.assertIs(word == "still", len(set(row)) == 1)
                    words.add(word)
                self.assertIs("mixed" in words, chain.size > 2)

    def test_point_73(self):
        lowered = 0
        for chain in SHAPES:
            for lot in all_lots(chain.size):
                outside = [z for z in range(chain.size) if z not in lot]
                found = []
                for a, b in product(outside, lot):
                    four = [(s, z) for s, z in product(lot, outside) if parted_walks(chain, a, s, b, z) is not None]
                    word = lot_verdict(chain, a, b, lot)
                    self.assertEqual(word, "mixed" if four else "lifts")
                    for s, z in four:
                        self.assertEqual(len({a, b, s, z}), 4)
                        if chain.size == 4:
                            self.assertTrue((a, s) in chain and (b, z) in chain)
                    if four and (a, b) in chain:
                        found.append((a, b))
                self.assertEqual(lot_lowerer(chain, lot), min(found, default=None))
                lowered += len(found)
        self.assertGreater(lowered, 0)

    def test_point_73_a_faster_arrow_into_a_lot_lowers_its_share(self):
        chain = Chain.of_arrows(4, [(0, 1), (0, 3), (1, 2), (2, 0), (3, 0)])
        rates = mean_rates(chain, 0, 1, [0, 1, 0, 1], -1)
        for number in (1, 10 ** 6):
            new = rates.with_rate(0, 1, rates[0, 1] + number)
            before, after = tree_row(rates), tree_row(new)
            self.assertLess((after[1] + after[3]) * sum(before), (before[1] + before[3]) * sum(after))


if __name__ == "__main__":
    unittest.main()
