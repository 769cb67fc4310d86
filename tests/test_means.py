"""lastingshares.means: linked pairs, mean words and rates, lot words, and arrows that may lower the share of a lot."""

import unittest

from lastingshares.chains import Chain
from lastingshares.errors import BadSet
from lastingshares.means import linked, lot_lowerer, lot_verdict, mean_rates, mean_verdict
from lastingshares.pushes import mean_push
from support import (SHAPES, all_lots, are_parted, check_error, check_new_list, check_rows_named, check_sets_named,
                     check_signs_named, check_states_named, complete, shape_of, several_rates, sign, slow_mean_push,
                     slow_word)

CHAIN = Chain([[0, 1, 1], [1, 0, 2], [1, 0, 0]])
LOWERED = Chain.of_arrows(4, [(0, 1), (0, 3), (1, 2), (2, 0), (3, 0)])
FEW = SHAPES[:19] + SHAPES[19:80:8] + SHAPES[81:90:5]
ROWS = [(0, 0, 0, 0, 0), (1, 0, 0, 2, 1), (1, -2, 3, 5, -7), (0, 1, 0, 1, 1), (10 ** 12, -10 ** 12, 0, 1, 2)]
WORDS = {1: ("lifts", "mixed"), -1: ("lowers", "mixed"), 0: ("still", "mixed")}
SIGNS = {"still": {0}, "lifts": {1}, "lowers": {-1}, "mixed": {-1, 0, 1}}


def slow_links(chain, a, b):
    return [(c, e) for c, e in chain.pairs_of(chain.size) if are_parted(chain, b, c, a, e)]


def slow_mean_word(chain, a, b, row):
    links = slow_links(chain, a, b)
    return slow_word(any(row[c] > row[e] for c, e in links), any(row[c] < row[e] for c, e in links))


def row_of_lot(chain, lot):
    return [1 if x in lot else 0 for x in range(chain.size)]


class Links(unittest.TestCase):
    def test_against_walks(self):
        for chain in SHAPES:
            for a, b in chain.pairs_of(chain.size):
                self.assertEqual(linked(chain, a, b), slow_links(chain, a, b))

    def test_edges(self):
        self.assertEqual((linked(complete(2), 0, 1), linked(complete(2), 1, 0)), ([(1, 0)], [(0, 1)]))
        self.assertEqual(linked(complete(8), 2, 5), [(c, e) for c, e in complete(8) if c != 2 and e != 5])
        self.assertEqual(linked(Chain.around([1] * 4), 0, 1), [(1, 0), (2, 0), (3, 0)])
        check_new_list(self, linked, CHAIN, 0, 1)

    def test_errors(self):
        check_states_named(self, linked, CHAIN, (0, 1), same=((0, 1),))


class MeanWords(unittest.TestCase):
    def test_against_walks(self):
        words = set()
        for chain in SHAPES:
            for row in ROWS:
                given = list(row[:chain.size])
                for a, b in chain.pairs_of(chain.size):
                    word = mean_verdict(chain, a, b, given)
                    self.assertEqual(word, slow_mean_word(chain, a, b, given))
                    words.add(word)
                self.assertEqual(given, list(row[:chain.size]))
        self.assertEqual(words, {"still", "lifts", "lowers", "mixed"})

    def test_against_several_rates(self):
        for chain in FEW:
            for row in ROWS:
                given = row[:chain.size]
                for a, b in chain.pairs_of(chain.size):
                    signs = {sign(slow_mean_push(rates, a, b, given)) for rates in several_rates(chain)}
                    self.assertLessEqual(signs, SIGNS[mean_verdict(chain, a, b, given)])

    def test_edges(self):
        self.assertEqual([mean_verdict(complete(2), 0, 1, row) for row in ((1, 1), (1, 2), (2, 1))],
                         ["still", "lifts", "lowers"])
        self.assertEqual(mean_verdict(complete(8), 0, 1, [5] * 8), "still")
        self.assertEqual(mean_verdict(complete(8), 0, 1, [-1, 5] + [5] * 6), "lifts")
        self.assertEqual(mean_verdict(complete(8), 0, 1, [5, -1] + [5] * 6), "lowers")
        self.assertEqual(mean_verdict(complete(8), 0, 1, [5] * 7 + [6]), "mixed")

    def test_errors(self):
        for row in ([1, 1, 1], None, [True, 1, 1]):
            check_states_named(self, mean_verdict, CHAIN, (0, 1, row), same=((0, 1),), at=(0, 1))
        check_rows_named(self, lambda row: mean_verdict(CHAIN, 0, 1, row))


class MeanRates(unittest.TestCase):
    def check_rates(self, chain, a, b, row, word, slow):
        for wanted in (1, 0, -1):
            found = mean_rates(chain, a, b, row, wanted)
            if word in WORDS[wanted]:
                self.assertIs(type(found), Chain)
                self.assertEqual(shape_of(found), shape_of(chain))
                self.assertEqual(sign(slow(found, a, b, row)), wanted)
            else:
                self.assertIsNone(found)

    def test_each_row(self):
        for chain in FEW:
            for row in ROWS:
                given = row[:chain.size]
                for a, b in chain.pairs_of(chain.size)[::2]:
                    self.check_rates(chain, a, b, given, slow_mean_word(chain, a, b, given), slow_mean_push)

    def test_eight_states(self):
        great = Chain([[0 if x == y else 10 ** 12 - x - 8 * y for y in range(8)] for x in range(8)])
        for chain in (complete(8), great):
            self.check_rates(chain, 0, 1, [3, 1, 4, 1, 5, 9, 2, 6], "mixed", mean_push)
            self.check_rates(chain, 7, 1, [-10 ** 12, 10 ** 12] * 4, "mixed", mean_push)
            self.check_rates(chain, 7, 1, [0] * 7 + [-1], "lifts", mean_push)
            self.check_rates(chain, 7, 1, [0] * 7 + [1], "lowers", mean_push)
            self.check_rates(chain, 7, 1, [7] * 8, "still", mean_push)

    def test_errors(self):
        for row, wanted in (([1, 1, 1], 1), (None, 1), ([1, 1], 5)):
            check_states_named(self, mean_rates, CHAIN, (0, 1, row, wanted), same=((0, 1),), at=(0, 1))
        for wanted in (1, 5, None):
            check_rows_named(self, lambda row, wanted=wanted: mean_rates(CHAIN, 0, 1, row, wanted))
        check_signs_named(self, (1, 0, -1), lambda wanted: mean_rates(CHAIN, 0, 1, [1, 2, 3], wanted))
        check_signs_named(self, (1, 0, -1), lambda wanted: mean_rates(CHAIN, 0, 1, [2, 2, 2], wanted))


class Lots(unittest.TestCase):
    def test_words_against_walks(self):
        for chain in SHAPES:
            for lot in all_lots(chain.size)[::3]:
                row = row_of_lot(chain, lot)
                for a, b in chain.pairs_of(chain.size):
                    self.assertEqual(lot_verdict(chain, a, b, tuple(lot[::-1])), slow_mean_word(chain, a, b, row))

    def test_lowerers_against_walks(self):
        found = []
        for chain in SHAPES:
            for lot in all_lots(chain.size):
                row = row_of_lot(chain, lot)
                lowering = [(a, b) for a, b in chain.arrows() if a not in lot and b in lot
                            and slow_mean_word(chain, a, b, row) == "mixed"]
                kept = list(lot)
                self.assertEqual(lot_lowerer(chain, lot), min(lowering, default=None))
                self.assertEqual(lot, kept)
                found.append(len(lowering) > 1)
        self.assertIn(True, found)

    def test_edges(self):
        self.assertEqual((lot_lowerer(LOWERED, [3, 1]), lot_lowerer(LOWERED, (1, 3)), lot_lowerer(LOWERED, [0])),
                         ((0, 1), (0, 1), None))
        self.assertEqual((lot_lowerer(complete(2), [1]), lot_lowerer(complete(3), [0, 1])), (None, None))
        self.assertEqual((lot_lowerer(complete(8), [0, 1]), lot_lowerer(complete(8), [5, 7, 6])), ((2, 0), (0, 5)))
        self.assertEqual(lot_verdict(LOWERED, 0, 1, [3, 1]), "mixed")
        self.assertEqual([lot_verdict(complete(2), 0, 1, [x]) for x in (0, 1)], ["lowers", "lifts"])

    def test_errors(self):
        for lot in ([0], [], None, [True]):
            check_states_named(self, lot_verdict, CHAIN, (0, 1, lot), same=((0, 1),), at=(0, 1))
        for call in (lambda lot: lot_verdict(CHAIN, 0, 1, lot), lambda lot: lot_lowerer(CHAIN, lot)):
            check_sets_named(self, call, least=1)
            check_error(self, BadSet(-2), call, [0, 2, 1])
            check_error(self, BadSet(-2), call, (0, 1, 2))


if __name__ == "__main__":
    unittest.main()
