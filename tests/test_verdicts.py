"""lastingshares.verdicts: words of ratios and shares, classes, mixed arrows, one-way states."""

import unittest
from itertools import product

from lastingshares.chains import Chain
from lastingshares.verdicts import mixed_arrows, one_way, ratio_verdict, share_verdict, still_classes
from support import (SHAPES, check_new_list, check_states_named, complete, several_rates, sign, slow_push,
                     slow_ratio_word, slow_share_push, slow_share_word, slow_trees)

CHAIN = Chain([[0, 1, 1], [1, 0, 2], [1, 0, 0]])
MANY_MIXED = Chain.of_arrows(4, [(0, 1), (0, 2), (0, 3), (1, 2), (1, 3), (2, 0), (3, 0)])
HANGING = Chain.of_arrows(8, [(0, 1), (1, 2), (2, 0), (2, 3), (3, 2), (3, 4), (4, 5), (5, 3), (5, 6), (6, 5), (5, 7),
                              (7, 5)])
SIGNS = {"still": {0}, "lifts": {1}, "lowers": {-1}, "mixed": {-1, 0, 1}}


class RatioWords(unittest.TestCase):
    def test_against_walks(self):
        for chain in SHAPES:
            pairs = chain.pairs_of(chain.size)
            for (a, b), (c, e) in product(pairs, pairs):
                self.assertEqual(ratio_verdict(chain, a, b, c, e), slow_ratio_word(chain, a, b, c, e))

    def test_against_several_rates(self):
        for chain in SHAPES[:19] + SHAPES[19::7]:
            pairs = chain.pairs_of(chain.size)
            for (a, b), (c, e) in product(pairs, pairs):
                word = ratio_verdict(chain, a, b, c, e)
                signs = {sign(slow_push(rates, a, b, c, e)) for rates in several_rates(chain)}
                self.assertLessEqual(signs, SIGNS[word])
                for rates in several_rates(chain)[3:5]:
                    self.assertEqual(ratio_verdict(rates, a, b, c, e), word)

    def test_edges(self):
        self.assertEqual([ratio_verdict(complete(2), 0, 1, c, 1 - c) for c in (0, 1)], ["lowers", "lifts"])
        found = [ratio_verdict(complete(8), 0, 1, c, e) for c, e in ((1, 0), (0, 1), (1, 2), (2, 1), (2, 3))]
        self.assertEqual(found, ["lifts", "lowers", "lifts", "lowers", "mixed"])
        # A pair that is no arrow has a word, too.
        ring = Chain.around([1] * 8)
        self.assertEqual([ratio_verdict(ring, 0, 3, c, e) for c, e in ((1, 5), (4, 5), (5, 1), (1, 2))],
                         ["lowers", "still", "lifts", "still"])

    def test_errors(self):
        check_states_named(self, ratio_verdict, CHAIN, (0, 1, 1, 2), same=((0, 1), (2, 3)))
        check_states_named(self, ratio_verdict, CHAIN, (0, 1, 2, 2), same=((0, 1),))


class ShareWords(unittest.TestCase):
    def test_against_walks(self):
        for chain in SHAPES:
            for a, b in chain.pairs_of(chain.size):
                for c in range(chain.size):
                    self.assertEqual(share_verdict(chain, a, b, c), slow_share_word(chain, a, b, c))

    def test_against_several_rates(self):
        for chain in SHAPES[:19] + SHAPES[19::7]:
            for a, b in chain.pairs_of(chain.size):
                for c in range(chain.size):
                    signs = {sign(slow_share_push(rates, a, b, c)) for rates in several_rates(chain)}
                    self.assertLessEqual(signs, SIGNS[share_verdict(chain, a, b, c)])

    def test_edges(self):
        self.assertEqual([share_verdict(complete(8), 0, 1, c) for c in (0, 1, 2, 7)],
                         ["lowers", "lifts", "mixed", "mixed"])
        self.assertEqual([share_verdict(complete(2), 1, 0, c) for c in (0, 1)], ["lifts", "lowers"])
        self.assertEqual([share_verdict(HANGING, 0, 2, c) for c in range(8)], ["lowers", "lowers"] + ["lifts"] * 6)

    def test_errors(self):
        check_states_named(self, share_verdict, CHAIN, (0, 1, 1), same=((0, 1),))


class Classes(unittest.TestCase):
    def test_against_walks(self):
        for chain in SHAPES:
            for a, b in chain.pairs_of(chain.size):
                classes = []
                for c in range(chain.size):
                    like = tuple(e for e in range(chain.size)
                                 if e == c or slow_ratio_word(chain, a, b, c, e) == "still")
                    if like not in classes:
                        classes.append(like)
                self.assertEqual(still_classes(chain, a, b), classes)

    def test_edges(self):
        self.assertEqual(still_classes(complete(2), 1, 0), [(0,), (1,)])
        self.assertEqual(still_classes(complete(8), 4, 2), [(x,) for x in range(8)])
        self.assertEqual(still_classes(Chain.around([1] * 8), 6, 3), [(0, 1, 2, 6, 7), (3, 4, 5)])
        self.assertEqual(still_classes(HANGING, 0, 2), [(0, 1), (2, 3, 4, 5, 6, 7)])
        # Classes with gaps in them; one is neither that of a nor that of b.
        chain = Chain.of_arrows(6, [(0, 1), (0, 3), (1, 3), (3, 5), (3, 2), (5, 3), (2, 3), (1, 4), (4, 0), (3, 0)])
        self.assertEqual(still_classes(chain, 0, 1), [(0,), (1, 4), (2, 3, 5)])
        check_new_list(self, still_classes, CHAIN, 0, 1)

    def test_errors(self):
        check_states_named(self, still_classes, CHAIN, (0, 1), same=((0, 1),))


class MixedArrows(unittest.TestCase):
    def test_against_walks(self):
        many = 0
        for chain in SHAPES:
            for c, e in chain.pairs_of(chain.size):
                found = [(a, b) for a, b in chain.arrows() if slow_ratio_word(chain, a, b, c, e) == "mixed"]
                self.assertEqual(mixed_arrows(chain, c, e), found)
                many = max(many, len(found))
        self.assertGreater(many, 3)

    def test_edges(self):
        self.assertEqual((mixed_arrows(MANY_MIXED, 2, 3), mixed_arrows(MANY_MIXED, 0, 3)), ([(0, 1)], []))
        self.assertEqual((mixed_arrows(complete(2), 0, 1), mixed_arrows(complete(3), 0, 1)), ([], []))
        self.assertEqual(mixed_arrows(complete(8), 0, 1), [(a, b) for a, b in complete(8) if a > 1 and b > 1])
        self.assertEqual([mixed_arrows(HANGING, c, e) for c, e in HANGING.pairs_of(8)], [[]] * 56)
        check_new_list(self, mixed_arrows, MANY_MIXED, 2, 3)

    def test_errors(self):
        check_states_named(self, mixed_arrows, CHAIN, (0, 1), same=((0, 1),))


class OneWay(unittest.TestCase):
    def test_against_trees_and_words(self):
        for chain in SHAPES:
            for c in range(chain.size):
                words = [slow_share_word(chain, a, b, c) for a, b in chain.arrows()]
                self.assertIs(one_way(chain, c), "mixed" not in words)
                self.assertIs(one_way(chain, c), len(slow_trees(chain, c)) == 1)

    def test_edges(self):
        self.assertEqual([one_way(HANGING, c) for c in range(8)], [True] * 8)
        self.assertEqual([one_way(complete(8), c) for c in range(8)], [False] * 8)
        self.assertEqual([one_way(complete(2), c) for c in range(2)], [True] * 2)
        self.assertEqual([one_way(MANY_MIXED, c) for c in range(4)], [False, True, False, False])
        self.assertEqual([one_way(Chain([[0, 2, 0], [1, 0, 3], [4, 0, 0]]), c) for c in range(3)], [False, True, True])

    def test_errors(self):
        check_states_named(self, one_way, CHAIN, (0,))


if __name__ == "__main__":
    unittest.main()
