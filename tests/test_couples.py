"""lastingshares.couples: up and down, couple words and rates."""

import unittest
from itertools import product

from lastingshares.chains import Chain
from lastingshares.couples import couple_rates, couple_verdict, couple_walks
from lastingshares.errors import BadNumber, BadPair, NotArrow, SameState
from lastingshares.falls import fall
from support import (SHAPES, check_arrows_named, check_error, complete, shape_of, several_rates, sign,
                     slow_held_total, slow_share_word, slow_walks)

CHAIN = Chain([[0, 2, 3], [5, 0, 7], [1, 0, 0]])
FEW = SHAPES[:19] + SHAPES[19:80:7] + SHAPES[83::13]
GREAT = Chain([[0 if x == y else 10 ** 12 - x - 8 * y for y in range(8)] for x in range(8)])
SIGNS = {"contrary": 1, "helpful": -1}


def couples(chain):
    return [(one, other) for one, other in product(chain.arrows(), repeat=2) if one[0] != other[0]]


def slow_fall(table, one, other):
    both = slow_held_total(table, [one, other])
    return slow_held_total(table, [one]) * slow_held_total(table, [other]) - slow_held_total(table, []) * both


def round_state(chain, x, y, z):
    """True if a walk from x to y does not meet z."""
    return any(z not in walk for walk in slow_walks(chain, x, y))


def slow_couple_word(chain, one, other):
    (a, b), (g, h) = one, other
    words = (slow_share_word(chain, a, b, g), slow_share_word(chain, g, h, a))
    if "mixed" in words:
        return "both"
    return "contrary" if words[0] == words[1] else "helpful"


class Walks(unittest.TestCase):
    def test_against_walks(self):
        for chain in SHAPES:
            for one, other in couples(chain):
                (a, b), (g, h) = one, other
                expected = (round_state(chain, b, g, a), round_state(chain, a, g, b),
                            round_state(chain, h, a, g), round_state(chain, g, a, h))
                found = couple_walks(chain, list(one), other)
                self.assertEqual(found, expected)
                self.assertEqual([type(value) for value in found], [bool] * 4)

    def test_edges(self):
        self.assertEqual(couple_walks(CHAIN, (0, 1), (1, 2)), (True, False, True, True))
        self.assertEqual(couple_walks(CHAIN, (1, 2), (0, 1)), (True, True, True, False))
        self.assertEqual(couple_walks(complete(2), (0, 1), (1, 0)), (True, False, True, False))
        self.assertEqual(couple_walks(complete(8), (0, 1), (2, 3)), (True,) * 4)


class Words(unittest.TestCase):
    def test_against_walks(self):
        words = set()
        for chain in SHAPES:
            for one, other in couples(chain):
                word = couple_verdict(chain, one, list(other))
                self.assertEqual(word, slow_couple_word(chain, one, other))
                words.add(word)
        self.assertEqual(words, {"contrary", "helpful", "both"})

    def test_against_several_rates(self):
        signs = {"contrary": {1}, "helpful": {-1}, "both": {-1, 0, 1}}
        for chain in FEW:
            for one, other in couples(chain)[::3]:
                found = {sign(slow_fall(rates, one, other)) for rates in several_rates(chain)[:4]}
                self.assertLessEqual(found, signs[couple_verdict(chain, one, other)])

    def test_edges(self):
        self.assertEqual(couple_verdict(CHAIN, (0, 1), (1, 2)), "both")
        self.assertEqual([couple_verdict(complete(size), (0, 1), (1, 0)) for size in (2, 8)], ["contrary"] * 2)
        self.assertEqual(couple_verdict(Chain.around([1] * 8), (0, 1), (4, 5)), "contrary")
        self.assertEqual(couple_verdict(complete(8), (0, 1), (2, 3)), "both")


class Rates(unittest.TestCase):
    def check_rates(self, chain, one, other, found_word, slow):
        for word, wanted in SIGNS.items():
            found = couple_rates(chain, one, other, word)
            if found_word in (word, "both"):
                self.assertIs(type(found), Chain)
                self.assertEqual(shape_of(found), shape_of(chain))
                self.assertEqual(sign(slow(found, one, other)), wanted)
            else:
                self.assertIsNone(found)

    def test_each_couple(self):
        both = {}
        for chain in SHAPES:
            for one, other in couples(chain)[::1 if chain.size < 5 else 5]:
                self.check_rates(chain, one, other, slow_couple_word(chain, one, other), slow_fall)
                words = slow_share_word(chain, *one, other[0]), slow_share_word(chain, *other, one[0])
                both[words] = True
        # Each word of one of them stood beside each word of the other one.
        self.assertEqual(len(both), 9)

    def test_other_rates_than_1(self):
        for chain in FEW:
            for one, other in couples(chain)[::4]:
                for rates in several_rates(chain)[2:4]:
                    self.check_rates(rates, one, other, slow_couple_word(chain, one, other), slow_fall)

    def test_eight_states(self):
        for chain in (complete(8), GREAT):
            for one, other, word in (((0, 1), (2, 3), "both"), ((0, 2), (2, 3), "both"), ((0, 1), (2, 0), "both"),
                                     ((0, 5), (2, 5), "both"), ((7, 3), (3, 7), "contrary")):
                self.check_rates(chain, one, other, word, fall)
        self.check_rates(Chain.around([10 ** 12] * 8), (0, 1), (4, 5), "contrary", fall)
        self.check_rates(complete(2), (0, 1), (1, 0), "contrary", fall)

    def test_wrong_words(self):
        for thing in (None, 0, True, "both", "Helpful", "", ["helpful"], ("contrary",)):
            check_error(self, BadNumber("word"), couple_rates, CHAIN, (0, 1), (1, 2), thing)
            check_error(self, SameState(0, 1), couple_rates, CHAIN, (0, 1), (0, 2), thing)
            check_error(self, NotArrow(2, 1), couple_rates, CHAIN, (0, 1), (2, 1), thing)


class Errors(unittest.TestCase):
    def test_arrows_and_tails(self):
        for call, rest in ((couple_walks, ()), (couple_verdict, ()), (couple_rates, ("both",)), (couple_rates, (1,))):
            check_arrows_named(self, lambda *two, call=call, rest=rest: call(CHAIN, *two, *rest), CHAIN,
                               [(0, 1), (1, 2)])
            check_error(self, SameState(0, 1), call, CHAIN, (0, 1), (0, 2), *rest)
            check_error(self, SameState(0, 1), call, complete(8), [7, 1], (7, 2), *rest)
            check_error(self, BadPair(1), call, CHAIN, (0, 1), (0, 1), *rest)


if __name__ == "__main__":
    unittest.main()
