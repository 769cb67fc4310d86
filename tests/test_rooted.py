"""lastingshares.rooted: falls out of a state, rooted words and rates."""

import unittest
from itertools import product

from lastingshares.chains import Chain
from lastingshares.errors import BadNumber, BadPair, BadState, NotArrow, SameState
from lastingshares.falls import fall_to
from lastingshares.rooted import falls_out, falls_out_total, rooted_rates, rooted_verdict
from support import (MIXED, SHAPES, check_arrows_named, check_error, check_new_list, check_signs_named,
                     check_states_named, complete, shape_of, several_rates, sign, slow_held, slow_held_total,
                     slow_ratio_word)

CHAIN = Chain([[0, 2, 3], [5, 0, 7], [1, 0, 0]])
FEW = SHAPES[1:80:5] + SHAPES[83::13]
GREAT = Chain([[0 if x == y else 10 ** 12 - x - 8 * y for y in range(8)] for x in range(8)])


def slow_rooted_word(chain, one, other, c):
    (a, b), (g, h) = one, other
    words = {slow_ratio_word(chain, a, b, c, g), slow_ratio_word(chain, g, h, c, a)}
    if "still" in words:
        return "none"
    if "mixed" in words:
        return "open" if len(words) == 1 else "both"
    return "contrary" if len(words) == 1 else "helpful"


def slow_fall_to(table, one, other, c):
    both = slow_held(table, [one, other], c)
    return slow_held(table, [one], c) * slow_held(table, [other], c) - slow_held(table, [], c) * both


def slow_fall(table, one, other):
    both = slow_held_total(table, [one, other])
    return slow_held_total(table, [one]) * slow_held_total(table, [other]) - slow_held_total(table, []) * both


def rooted_cases(chain):
    """Two arrows with different tails, and a state that is none of the two tails."""
    for one, other in product(chain.arrows(), repeat=2):
        for c in range(chain.size):
            if len({one[0], other[0], c}) == 3:
                yield one, other, c


class FallsOut(unittest.TestCase):
    def test_each_state(self):
        for table in MIXED[::3]:
            for one in table.arrows()[::2]:
                for s in range(table.size):
                    others = [(s, y) for y in table.heads(s) if (s, y) != one]
                    self.assertEqual(falls_out_total(table, list(one), s),
                                     [(other, slow_fall(table, one, other)) for other in others])
                    for c in range(table.size):
                        self.assertEqual(falls_out(table, one, s, c),
                                         [(other, slow_fall_to(table, one, other, c)) for other in others])

    def test_edges(self):
        self.assertEqual(falls_out(CHAIN, (0, 1), 1, 2), [((1, 0), 210), ((1, 2), -210)])
        self.assertEqual(falls_out(CHAIN, (0, 1), 0, 2), [((0, 2), 14 * 36)])
        for c in (0, 1):
            self.assertEqual(falls_out(CHAIN, (0, 1), 1, c), [((1, 0), 0), ((1, 2), 0)])
        self.assertEqual((falls_out(complete(2), (0, 1), 0, 1), falls_out_total(complete(2), (0, 1), 0)), ([], []))
        self.assertEqual([other for other, _ in falls_out_total(complete(8), (3, 5), 3)],
                         [(3, y) for y in (0, 1, 2, 4, 6, 7)])
        check_new_list(self, falls_out, CHAIN, (0, 1), 1, 2)
        check_new_list(self, falls_out_total, CHAIN, (0, 1), 1)

    def test_errors(self):
        check_states_named(self, falls_out, CHAIN, ((0, 1), 1, 1), at=(1, 2))
        check_states_named(self, falls_out_total, CHAIN, ((0, 1), 1), at=(1,))
        for rest in ((1, 2), (True, None)):
            check_arrows_named(self, lambda one, rest=rest: falls_out(CHAIN, one, *rest), CHAIN, [(0, 1)])
            check_arrows_named(self, lambda one, rest=rest: falls_out_total(CHAIN, one, rest[0]), CHAIN, [(0, 1)])


class Words(unittest.TestCase):
    def test_against_walks(self):
        words = set()
        for chain in SHAPES:
            for one, other, c in rooted_cases(chain):
                word = rooted_verdict(chain, one, list(other), c)
                self.assertEqual(word, slow_rooted_word(chain, one, other, c))
                words.add(word)
        self.assertEqual(words, {"none", "contrary", "helpful", "both", "open"})

    def test_against_several_rates(self):
        signs = {"none": {0}, "contrary": {1}, "helpful": {-1}, "both": {-1, 0, 1}, "open": {-1, 0, 1}}
        for chain in FEW:
            for one, other, c in list(rooted_cases(chain))[::3]:
                word = rooted_verdict(chain, one, other, c)
                found = {sign(slow_fall_to(rates, one, other, c)) for rates in several_rates(chain)[:4]}
                self.assertLessEqual(found, signs[word])

    def test_edges(self):
        self.assertEqual(rooted_verdict(CHAIN, (0, 1), (1, 2), 2), "helpful")
        self.assertEqual(rooted_verdict(CHAIN, (0, 1), (1, 0), 2), "contrary")
        self.assertEqual(rooted_verdict(complete(8), (0, 1), (2, 3), 4), "open")
        self.assertEqual(rooted_verdict(complete(8), (0, 4), (2, 3), 4), "both")
        self.assertEqual(rooted_verdict(complete(8), (0, 4), (2, 4), 4), "contrary")
        self.assertEqual(rooted_verdict(Chain.around([1] * 8), (0, 1), (2, 3), 4), "none")


class Rates(unittest.TestCase):
    def check_rates(self, chain, one, other, c, word, slow):
        for wanted, fitting in ((1, "contrary"), (-1, "helpful")):
            found = rooted_rates(chain, one, other, c, wanted)
            if word in (fitting, "both"):
                self.assertIs(type(found), Chain)
                self.assertEqual(shape_of(found), shape_of(chain))
                self.assertEqual(sign(slow(found, one, other, c)), wanted)
            else:
                self.assertIsNone(found)

    def test_each_case(self):
        words = set()
        for chain in SHAPES:
            for one, other, c in list(rooted_cases(chain))[::1 if chain.size < 5 else 7]:
                word = slow_rooted_word(chain, one, other, c)
                self.check_rates(chain, one, other, c, word, slow_fall_to)
                words.add(word)
        self.assertEqual(words, {"none", "contrary", "helpful", "both", "open"})

    def test_eight_states(self):
        for chain in (complete(8), GREAT):
            for one, other, c, word in (((0, 1), (2, 3), 4, "open"), ((0, 4), (2, 3), 4, "both"),
                                        ((0, 1), (2, 4), 4, "both"), ((0, 2), (2, 3), 4, "both"),
                                        ((0, 4), (2, 4), 4, "contrary"), ((0, 2), (2, 0), 4, "contrary")):
                self.assertEqual(rooted_verdict(chain, one, other, c), word)
                self.check_rates(chain, one, other, c, word, fall_to)

    def test_errors(self):
        for call, rest in ((rooted_verdict, ()), (rooted_rates, (1,)), (rooted_rates, (5,))):
            check_states_named(self, call, CHAIN, ((0, 1), (1, 2), 2, *rest), at=(2,))
            for c in (2, 0, 7, True):
                check_arrows_named(self, lambda *two, call=call, c=c, rest=rest: call(CHAIN, *two, c, *rest), CHAIN,
                                   [(0, 1), (1, 2)])
            check_error(self, BadState(0), call, CHAIN, (0, 1), (0, 2), 3, *rest)
            check_error(self, SameState(0, 1), call, CHAIN, (0, 1), (0, 2), 0, *rest)
            check_error(self, SameState(0, 1), call, CHAIN, (0, 1), (0, 2), 1, *rest)
            check_error(self, SameState(0, 2), call, CHAIN, (0, 1), (1, 0), 0, *rest)
            check_error(self, SameState(1, 2), call, CHAIN, (0, 1), (1, 0), 1, *rest)
            check_error(self, BadPair(1), call, CHAIN, (2, 1), (1, 1), 9, *rest)
            check_error(self, NotArrow(2, 1), call, CHAIN, (2, 1), (1, 0), 9, *rest)
        check_signs_named(self, (1, -1), lambda wanted: rooted_rates(CHAIN, (0, 1), (1, 2), 2, wanted))
        check_error(self, BadNumber("sign"), rooted_rates, complete(8), (0, 1), (2, 3), 4, 0)


if __name__ == "__main__":
    unittest.main()
