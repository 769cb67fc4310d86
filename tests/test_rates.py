"""lastingshares.rates: forested rates, and rates with a wanted sign of a push on a ratio or a share."""

import unittest
from itertools import product

from lastingshares.chains import Chain
from lastingshares.errors import BadForest
from lastingshares.pushes import push, share_push
from lastingshares.rates import forested, level_rates, lifted_rates, lowered_rates, share_rates
from support import (SHAPES, check_error, check_numbers_named, check_signs_named, check_states_named, complete,
                     shape_of, several_rates, sign, slow_forests, slow_push, slow_ratio_word, slow_share_push,
                     slow_share_word)

CHAIN = Chain([[0, 1, 1], [1, 0, 2], [1, 0, 0]])
MANY_MIXED = Chain.of_arrows(4, [(0, 1), (0, 2), (0, 3), (1, 2), (1, 3), (2, 0), (3, 0)])
FEW = SHAPES[:19] + SHAPES[19:80:7] + SHAPES[81:90:4]
GREAT = Chain([[0 if x == y else 10 ** 12 - x - 8 * y for y in range(8)] for x in range(8)])
WORDS = {1: ("lifts", "mixed"), -1: ("lowers", "mixed"), 0: ("still", "mixed")}


class Forested(unittest.TestCase):
    def test_each_forest(self):
        for shape in FEW[::2]:
            chain = several_rates(shape)[3]
            for c, e in chain.pairs_of(chain.size):
                for number, forest in enumerate(slow_forests(chain, [c, e])[:9], start=2):
                    rows = [[0 if rate == 0 else number if forest[x] == y else 1 for y, rate in enumerate(row)]
                            for x, row in enumerate(chain.rows)]
                    found = forested(chain, list(forest), number)
                    self.assertIs(type(found), Chain)
                    self.assertEqual(found, Chain(rows))

    def test_edges(self):
        self.assertEqual(forested(CHAIN, [0, 1, 2], 9).rows, ((0, 1, 1), (1, 0, 1), (1, 0, 0)))
        # A ring is taken, too.
        self.assertEqual(forested(CHAIN, (1, 0, 0), 9).rows, ((0, 9, 1), (9, 0, 1), (9, 0, 0)))
        self.assertEqual(forested(MANY_MIXED, (3, 2, 2, 3), 7).rows,
                         ((0, 1, 1, 7), (0, 0, 7, 1), (1, 0, 0, 0), (1, 0, 0, 0)))
        self.assertEqual(forested(complete(8), [1] * 8, 1), complete(8))
        self.assertEqual(forested(complete(8), [7] * 8, 10 ** 12).rows[2], (1, 1, 0, 1, 1, 1, 1, 10 ** 12))

    def test_errors(self):
        for thing in (None, 3, "012", {0: 0, 1: 1, 2: 2}, range(3), [], [0, 1], (0, 1, 2, 2)):
            check_error(self, BadForest(-1), forested, CHAIN, thing, 1)
            check_error(self, BadForest(-1), forested, CHAIN, thing, 0)
        for thing in (True, False, -1, 3, None, "0", (0,)):
            for x in range(3):
                forest = [0, 1, 2]
                forest[x:] = [thing] * (3 - x)
                check_error(self, BadForest(x), forested, CHAIN, forest, 1)
        check_error(self, BadForest(2), forested, CHAIN, (1, 2, 1), 1)
        check_error(self, BadForest(2), forested, CHAIN, (1, 2, 1), True)
        check_numbers_named(self, "number", lambda number: forested(CHAIN, (1, 2, 2), number), least=1)


class RatioRates(unittest.TestCase):
    def check_rates(self, chain, a, b, c, e, word, slow):
        for wanted, call in ((1, lifted_rates), (-1, lowered_rates), (0, level_rates)):
            found = call(chain, a, b, c, e)
            if word in WORDS[wanted]:
                self.assertIs(type(found), Chain)
                self.assertEqual(shape_of(found), shape_of(chain))
                self.assertEqual(sign(slow(found, a, b, c, e)), wanted)
            else:
                self.assertIsNone(found)

    def test_each_four_states(self):
        for chain in FEW:
            pairs = chain.pairs_of(chain.size)
            for (a, b), (c, e) in product(pairs, pairs[::2] if chain.size == 5 else pairs):
                self.check_rates(chain, a, b, c, e, slow_ratio_word(chain, a, b, c, e), slow_push)

    def test_mixed_words_of_larger_chains(self):
        for chain in SHAPES[80:]:
            for (a, b), (c, e) in product(chain.arrows()[::3], chain.pairs_of(5)[::4]):
                word = slow_ratio_word(chain, a, b, c, e)
                if word == "mixed":
                    self.check_rates(chain, a, b, c, e, word, push)

    def test_eight_states(self):
        for chain in (complete(8), GREAT):
            self.check_rates(chain, 0, 1, 2, 3, "mixed", push)
            self.check_rates(chain, 7, 1, 2, 6, "mixed", push)
            self.check_rates(chain, 7, 1, 1, 6, "lifts", push)
            self.check_rates(chain, 7, 1, 5, 1, "lowers", push)
        self.check_rates(Chain.around([10 ** 12] * 8), 0, 2, 4, 6, "still", push)
        self.check_rates(complete(2), 0, 1, 1, 0, "lifts", push)
        self.check_rates(MANY_MIXED, 0, 1, 2, 3, "mixed", slow_push)

    def test_errors(self):
        for call in (lifted_rates, lowered_rates, level_rates):
            check_states_named(self, call, CHAIN, (0, 1, 1, 2), same=((0, 1), (2, 3)))
            check_states_named(self, call, CHAIN, (0, 1, 2, 2), same=((0, 1),))


class ShareRates(unittest.TestCase):
    def check_rates(self, chain, a, b, c, word, slow):
        for wanted in (1, 0, -1):
            found = share_rates(chain, a, b, c, wanted)
            if word in WORDS[wanted]:
                self.assertIs(type(found), Chain)
                self.assertEqual(shape_of(found), shape_of(chain))
                self.assertEqual(sign(slow(found, a, b, c)), wanted)
            else:
                self.assertIsNone(found)

    def test_each_three_states(self):
        for chain in FEW:
            for a, b in chain.pairs_of(chain.size):
                for c in range(chain.size):
                    self.check_rates(chain, a, b, c, slow_share_word(chain, a, b, c), slow_share_push)

    def test_eight_states(self):
        for chain in (complete(8), GREAT):
            for a, b, c, word in ((0, 1, 2, "mixed"), (7, 3, 0, "mixed"), (7, 3, 3, "lifts"), (7, 3, 7, "lowers")):
                self.check_rates(chain, a, b, c, word, share_push)
        self.check_rates(Chain.around([10 ** 12] * 8), 0, 2, 4, "lifts", share_push)
        self.check_rates(complete(2), 1, 0, 1, "lowers", share_push)

    def test_errors(self):
        for wanted in (1, 0, -1, 2, True):
            check_states_named(self, share_rates, CHAIN, (0, 1, 1, wanted), same=((0, 1),), at=(0, 1, 2))
        for c in range(3):
            check_signs_named(self, (1, 0, -1), lambda wanted, c=c: share_rates(CHAIN, 0, 1, c, wanted))


if __name__ == "__main__":
    unittest.main()
