"""lastingshares.growth: factors of states, their words, and the ratio while one rate runs."""

import unittest
from fractions import Fraction
from itertools import product

from lastingshares.chains import Chain
from lastingshares.errors import SameState
from lastingshares.growth import factor, rate_for, run_ends, step_of
from lastingshares.tables import Table
from support import (MIXED, SHAPES, check_error, check_numbers_named, check_states_named, complete, empty,
                     several_rates, slow_sum, slow_walks)

CHAIN = Chain([[0, 1, 1], [1, 0, 2], [1, 0, 0]])
FEW = [chain for shape in SHAPES[:19] + SHAPES[19:65:9] + SHAPES[90::20] for chain in several_rates(shape)[1:4]]
RATIOS = [(1, 1), (1, 3), (2, 1), (6, 4), (10 ** 12, 1), (1, 10 ** 12)]


def parts_of(number):
    return (number.numerator, number.denominator)


def with_rate(table, a, b, rate):
    rows = [list(row) for row in table.rows]
    rows[a][b] = rate
    return Table(rows)


def slow_ends(table, a, b, c, e):
    """The sums of c and e with the rate 0, and what one more of the rate adds to them."""
    none, one = with_rate(table, a, b, 0), with_rate(table, a, b, 1)
    starts = tuple(slow_sum(none, [x]) for x in (c, e))
    return (starts, tuple(slow_sum(one, [x]) - start for x, start in zip((c, e), starts)))


def four_states(table):
    for a, b in table.pairs_of(table.size):
        for c, e in table.pairs_of(table.size):
            if a not in (c, e):
                yield a, b, c, e


class Factors(unittest.TestCase):
    def test_each_three_states(self):
        for chain in FEW:
            for by, (a, b) in enumerate(chain.pairs_of(chain.size), start=1):
                new = with_rate(chain, a, b, chain.rows[a][b] + by)
                for c in range(chain.size):
                    expected = Fraction(slow_sum(new, [c]), slow_sum(chain, [c]))
                    self.assertEqual(factor(chain, a, b, by, c), parts_of(expected))

    def test_edges(self):
        self.assertEqual([factor(CHAIN, 0, 1, 2, c) for c in range(3)], [(1, 1), (3, 1), (9, 5)])
        self.assertEqual([factor(complete(2), 0, 1, 10 ** 12, c) for c in (0, 1)], [(1, 1), (10 ** 12 + 1, 1)])
        self.assertEqual([factor(complete(8), 7, 0, 8, c) for c in (7, 0, 3)], [(1, 1), (3, 1), (2, 1)])
        # Here r(2,1) is 0 before.
        self.assertEqual([factor(CHAIN, 2, 1, 1, c) for c in range(3)], [(4, 3), (3, 1), (1, 1)])

    def test_errors(self):
        for by in (1, 0, True):
            check_states_named(self, factor, CHAIN, (0, 1, by, 2), same=((0, 1),), at=(0, 1, 3))
        check_numbers_named(self, "by", lambda by: factor(CHAIN, 0, 1, by, 1), least=1)


class Words(unittest.TestCase):
    def test_each_three_states(self):
        for chain in SHAPES:
            for a, b in chain.pairs_of(chain.size):
                for c in range(chain.size):
                    if all(b in walk for walk in slow_walks(chain, a, c)):
                        word = "head"
                    elif all(a in walk for walk in slow_walks(chain, b, c)):
                        word = "tail"
                    else:
                        word = "between"
                    self.assertEqual(step_of(chain, a, b, c), word)

    def test_edges(self):
        ring = Chain.around([5] * 8)
        self.assertEqual([step_of(ring, 2, 6, c) for c in range(8)],
                         ["head", "head", "tail", "tail", "tail", "tail", "head", "head"])
        self.assertEqual([step_of(complete(8), 2, 6, c) for c in (2, 6, 0)], ["tail", "head", "between"])

    def test_errors(self):
        check_states_named(self, step_of, CHAIN, (0, 1, 1), same=((0, 1),))


class Ends(unittest.TestCase):
    def test_each_four_states(self):
        for table in MIXED:
            for a, b, c, e in four_states(table):
                found = run_ends(table, a, b, c, e)
                self.assertEqual(found, slow_ends(table, a, b, c, e))
                self.assertEqual((type(found), [type(part) for part in found]), (tuple, [tuple, tuple]))

    def test_edges(self):
        self.assertEqual(run_ends(empty(8), 0, 1, 2, 3), ((0, 0), (0, 0)))
        # The numbers are not reduced, and the rate of ab does not matter.
        for rate in (0, 1, 10 ** 12):
            found = run_ends(complete(8).with_rate(0, 1, rate), 0, 1, 2, 3)
            self.assertEqual(found, ((7 * 8 ** 5,) * 2, (8 ** 5,) * 2))
            self.assertEqual(run_ends(with_rate(CHAIN, 0, 1, rate), 0, 1, 1, 2), ((0, 3), (1, 2)))

    def test_errors(self):
        for call, rest in ((run_ends, ()), (rate_for, (1, 1)), (rate_for, (0, True))):
            same = ((0, 1), (0, 2), (0, 3), (2, 3))
            check_states_named(self, call, complete(4), (0, 1, 2, 3, *rest), same=same, at=(0, 1, 2, 3))
            check_error(self, SameState(0, 1), call, CHAIN, 0, 0, 0, 0, *rest)
            check_error(self, SameState(0, 2), call, CHAIN, 0, 1, 0, 0, *rest)
            check_error(self, SameState(0, 3), call, CHAIN, 0, 1, 2, 0, *rest)
            check_error(self, SameState(2, 3), call, CHAIN, 0, 1, 1, 1, *rest)


class Rates(unittest.TestCase):
    def slow_rate(self, chain, a, b, c, e, u, v):
        """The one rate above 0 with (start + rate * step) of c and of e in this ratio, None if there is not one."""
        (start_c, start_e), (step_c, step_e) = slow_ends(chain, a, b, c, e)
        if v * step_c == u * step_e:
            return None
        rate = Fraction(u * start_e - v * start_c, v * step_c - u * step_e)
        moved = start_c * step_e != start_e * step_c
        return parts_of(rate) if rate > 0 and moved else None

    def test_each_four_states(self):
        found = set()
        for chain in FEW:
            for a, b, c, e in four_states(chain):
                now = slow_sum(chain, [c]), slow_sum(chain, [e])
                for u, v in RATIOS + [now]:
                    expected = self.slow_rate(chain, a, b, c, e, u, v)
                    self.assertEqual(rate_for(chain, a, b, c, e, u, v), expected)
                    found.add(expected is None)
        self.assertEqual(found, {True, False})

    def test_the_chain_with_this_rate_has_the_ratio(self):
        for chain in FEW[::3]:
            for a, b, c, e in four_states(chain):
                found = rate_for(chain, a, b, c, e, 2, 3)
                if found is not None:
                    # Rates out of a as multiples of 1 : q; all trees to c and e have one of them.
                    rows = [[rate * (found[1] if x == a else 1) for rate in row] for x, row in enumerate(chain.rows)]
                    rows[a][b] = found[0]
                    new = Table(rows)
                    self.assertEqual(slow_sum(new, [c]) * 3, slow_sum(new, [e]) * 2)

    def test_edges(self):
        # The ratio of 1 and 2 is r : 3 + 2*r, from 0 to 1 : 2, neither of them at any r.
        found = [rate_for(CHAIN, 0, 1, 1, 2, u, v) for u, v in ((1, 3), (2, 6), (1, 2), (3, 4), (1, 10 ** 12))]
        self.assertEqual(found, [(3, 1), (3, 1), None, None, (3, 10 ** 12 - 2)])
        self.assertEqual([rate_for(CHAIN, 0, 1, 2, 1, u, v) for u, v in ((3, 1), (2, 1), (10 ** 12, 1))],
                         [(3, 1), None, (3, 10 ** 12 - 2)])
        # Every rate has the ratio 1 : 1, and no rate has another one.
        self.assertEqual([rate_for(complete(8), 0, 1, 2, 3, u, v) for u, v in ((1, 1), (5, 5), (1, 2))], [None] * 3)
        self.assertEqual(rate_for(complete(8), 0, 1, 1, 2, 1, 1), (1, 1))
        self.assertEqual(rate_for(complete(8), 0, 1, 1, 2, 3, 2), (9, 1))

    def test_errors(self):
        for v in (1, 0, None):
            check_numbers_named(self, "u", lambda u, v=v: rate_for(CHAIN, 0, 1, 1, 2, u, v), least=1)
        check_numbers_named(self, "v", lambda v: rate_for(CHAIN, 0, 1, 1, 2, 1, v), least=1)
        check_numbers_named(self, "v", lambda v: rate_for(complete(4), 0, 1, 2, 3, 1, v), least=1)


if __name__ == "__main__":
    unittest.main()
