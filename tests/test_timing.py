"""lastingshares.timing: words of mean times and of chances."""

import unittest
from itertools import product

from lastingshares.chains import Chain
from lastingshares.timing import chance_verdict, time_verdict
from support import (SHAPES, check_states_named, complete, several_rates, sign, slow_long, slow_ratio_word,
                     slow_share_word, slow_sum, slow_walks)

CHAIN = Chain([[0, 1, 1], [1, 0, 2], [1, 0, 0]])
FEW = SHAPES[:19] + SHAPES[19:80:10]
TIMES = {"lifts": "sooner", "lowers": "later", "mixed": "mixed"}


def time_sign(old, new, x, c):
    return sign(slow_long(new, x, c) * slow_sum(old, [c]) - slow_long(old, x, c) * slow_sum(new, [c]))


def chance_sign(old, new, x, c, e):
    return sign(slow_sum(new, [c, e], [(x, c)]) * slow_sum(old, [c, e])
                - slow_sum(old, [c, e], [(x, c)]) * slow_sum(new, [c, e]))


class TimeWords(unittest.TestCase):
    def test_against_walks(self):
        for chain in SHAPES:
            for a, b in chain.pairs_of(chain.size):
                for x, c in product(range(chain.size), repeat=2):
                    if all(c in walk for walk in slow_walks(chain, x, a)):
                        word = "still"
                    else:
                        word = TIMES[slow_share_word(chain, a, b, c)]
                    self.assertEqual(time_verdict(chain, a, b, x, c), word)

    def test_against_several_rates(self):
        signs = {"still": {0}, "sooner": {-1}, "later": {1}, "mixed": {-1, 0, 1}}
        for chain in FEW:
            for rates in several_rates(chain)[:4]:
                for a, b in chain.pairs_of(chain.size):
                    new = rates.with_rate(a, b, rates[a, b] + 4)
                    for x, c in product(range(chain.size), repeat=2):
                        self.assertIn(time_sign(rates, new, x, c), signs[time_verdict(chain, a, b, x, c)])

    def test_edges(self):
        ring = Chain.around([1] * 8)
        self.assertEqual([time_verdict(ring, 0, 1, x, 4) for x in range(8)],
                         ["sooner"] + ["still"] * 4 + ["sooner"] * 3)
        self.assertEqual([time_verdict(ring, 4, 1, x, 6) for x in range(8)],
                         ["later"] * 5 + ["still", "still", "later"])
        self.assertEqual([time_verdict(ring, 4, 1, x, 4) for x in range(8)], ["still"] * 8)
        self.assertEqual([time_verdict(complete(8), 0, 1, x, c) for x, c in ((0, 1), (5, 1), (5, 5), (3, 0), (4, 5))],
                         ["sooner", "sooner", "still", "still", "mixed"])
        self.assertEqual([time_verdict(complete(2), 0, 1, x, c) for x, c in product((0, 1), repeat=2)],
                         ["still", "sooner", "still", "still"])

    def test_errors(self):
        check_states_named(self, time_verdict, CHAIN, (0, 1, 2, 2), same=((0, 1),))


class ChanceWords(unittest.TestCase):
    def test_against_walks(self):
        for chain in SHAPES:
            for a, b in chain.pairs_of(chain.size):
                for c, e in chain.pairs_of(chain.size)[::2]:
                    for x in range(chain.size):
                        if all(c in walk or e in walk for walk in slow_walks(chain, x, a)):
                            word = "still"
                        else:
                            word = slow_ratio_word(chain, a, b, c, e)
                        self.assertEqual(chance_verdict(chain, a, b, x, c, e), word)

    def test_against_several_rates(self):
        signs = {"still": {0}, "lifts": {1}, "lowers": {-1}, "mixed": {-1, 0, 1}}
        for chain in FEW[::2]:
            for rates in several_rates(chain)[:4]:
                for a, b in chain.pairs_of(chain.size):
                    new = rates.with_rate(a, b, rates[a, b] + 4)
                    for c, e in chain.pairs_of(chain.size)[1::2]:
                        for x in range(chain.size):
                            word = chance_verdict(chain, a, b, x, c, e)
                            self.assertIn(chance_sign(rates, new, x, c, e), signs[word])

    def test_edges(self):
        self.assertEqual([chance_verdict(complete(8), 0, 1, x, c, e) for x, c, e in
                          ((0, 1, 2), (3, 2, 1), (3, 4, 5), (4, 4, 5), (5, 4, 5), (3, 0, 5), (3, 5, 0))],
                         ["lifts", "lowers", "mixed", "still", "still", "still", "still"])
        ring = Chain.around([1] * 8)
        self.assertEqual([chance_verdict(ring, 2, 6, x, 7, 4) for x in range(8)],
                         ["lifts", "lifts", "lifts", "still", "still", "still", "still", "still"])
        self.assertEqual(chance_verdict(complete(2), 0, 1, 0, 1, 0), "still")

    def test_errors(self):
        check_states_named(self, chance_verdict, CHAIN, (0, 1, 0, 1, 2), same=((0, 1), (3, 4)))
        check_states_named(self, chance_verdict, CHAIN, (0, 1, 0, 2, 2), same=((0, 1),))


if __name__ == "__main__":
    unittest.main()
