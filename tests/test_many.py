"""lastingshares.many: push squares, their sums, rounds and third sums."""

import unittest
from itertools import combinations, permutations

from lastingshares.chains import Chain
from lastingshares.errors import BadPair, BadState, NotArrow
from lastingshares.many import push_square, rounds, square_sum, third_sum
from lastingshares.tables import Table
from support import GREAT, MIXED, check_arrows_named, check_error, check_states_named, complete, slow_held, slow_push

CHAIN = Chain([[0, 2, 3], [5, 0, 7], [1, 0, 0]])
TABLES = MIXED[::3] + GREAT[9:11]
EIGHT = Table([[0 if x == y or (x * y) % 5 == 4 else 10 ** 12 - 7 * x + y for y in range(8)] for x in range(8)])


def some_arrows(table, c):
    """Lists of one arrow, of two, of three and of all that do not leave c."""
    staying = [pair for pair in table.arrows() if pair[0] != c]
    found = [list(held) for many in (1, 2, 3) for held in list(combinations(staying, many))[::5]]
    return [held for held in found + [staying] if held]


def slow_square(table, arrows, c):
    return tuple(tuple(slow_push(table, a, b, c, g) for g, _ in sorted(arrows)) for a, b in sorted(arrows))


def slow_square_sum(table, arrows, c):
    """The product of the rates times the determinant, as a sum over all orders of the columns."""
    rows = slow_square(table, arrows, c)
    total = 0
    for order in permutations(range(len(rows))):
        term = (-1) ** sum(1 for k, x in enumerate(order) for y in order[:k] if y > x)
        for row, place in zip(rows, order):
            term *= row[place]
        total += term
    for x, y in arrows:
        total *= table.rows[x][y]
    return total


def slow_third_sum(table, three, c):
    none, whole = slow_held(table, [], c), slow_held(table, three, c)
    one, two, three_, = [slow_held(table, [arrow], c) for arrow in three]
    two_three, one_three, one_two = [slow_held(table, pair, c) for pair in (three[1:], three[::2], three[:2])]
    return (none ** 2 * whole - none * (one * two_three + two * one_three + three_ * one_two) + 2 * one * two * three_)


def slow_rounds(table, three, c):
    if c in [a for a, _ in three]:
        return 0
    d = [[slow_push(table, *arrow, c, other[0]) for other in three] for arrow in three]
    rates = 1
    for x, y in three:
        rates *= table.rows[x][y]
    return rates * (d[0][1] * d[1][2] * d[2][0] + d[0][2] * d[2][1] * d[1][0])


class Squares(unittest.TestCase):
    def test_each_set_of_arrows(self):
        for table in TABLES:
            for c in range(table.size):
                for arrows in some_arrows(table, c):
                    given = [list(pair) for pair in arrows[::-1]]
                    found = push_square(table, given, c)
                    self.assertEqual(found, slow_square(table, arrows, c))
                    self.assertEqual((type(found), {type(row) for row in found}), (tuple, {tuple}))
                    self.assertEqual(given, [list(pair) for pair in arrows[::-1]])
                    if len(arrows) < 5:
                        self.assertEqual(square_sum(table, tuple(given), c), slow_square_sum(table, arrows, c))

    def test_sums_are_those_of_trees(self):
        for table in TABLES:
            for c in range(table.size):
                total = slow_held(table, [], c)
                for arrows in some_arrows(table, c):
                    expected = slow_held(table, arrows, c) * total ** (len(arrows) - 1)
                    self.assertEqual(square_sum(table, arrows, c), expected)

    def test_edges(self):
        self.assertEqual(push_square(CHAIN, [(1, 2), (0, 1)], 2), ((7, -3), (5, 5)))
        self.assertEqual((push_square(CHAIN, [(0, 1)], 2), square_sum(CHAIN, [(0, 1)], 2)), (((7,),), 14))
        self.assertEqual(square_sum(CHAIN, [(1, 2), (0, 1)], 2), 700)
        # Two arrows with the same tail are in no tree together, and both ways between two states neither.
        self.assertEqual(square_sum(CHAIN, [(0, 1), (0, 2)], 1), 0)
        self.assertEqual(square_sum(CHAIN, [(0, 1), (1, 0)], 2), 0)
        self.assertEqual((push_square(complete(2), [(1, 0)], 0), square_sum(complete(2), [(1, 0)], 0)), (((1,),), 1))
        leaving = [(x, y) for x, y in complete(8) if x != 5]
        self.assertEqual((len(push_square(complete(8), leaving, 5)), square_sum(complete(8), leaving, 5)), (49, 0))
        straight = [(x, 5) for x in range(8) if x != 5]
        self.assertEqual(square_sum(complete(8), straight, 5), (8 ** 6) ** 6)

    def test_errors(self):
        absent = [(2, 1)]
        for call in (push_square, square_sum):
            for c in (2, 0, True, 9):
                check_error(self, BadPair(-1), call, CHAIN, None, c)
                check_error(self, BadPair(-1), call, CHAIN, {(0, 1)}, c)
                for thing in (None, 0, (0,), (0, 1, 2), (1, 1), (0, 3), (True, 0), [0, "1"]):
                    check_error(self, BadPair(1), call, CHAIN, [(0, 1), thing, None], c)
                check_error(self, BadPair(2), call, CHAIN, [(0, 1), (1, 2), [0, 1]], c)
                check_error(self, NotArrow(2, 1), call, CHAIN, [(0, 1), *absent], c)
                check_error(self, BadPair(-2), call, CHAIN, [], c)
                check_error(self, BadPair(-2), call, CHAIN, (), c)
            check_states_named(self, call, CHAIN, ([(0, 1), (1, 0)], 2), at=(1,))
            # The place is that in the argument as it is given.
            check_error(self, BadPair(1), call, CHAIN, [(1, 2), (0, 2), (0, 1)], 0)
            check_error(self, BadPair(0), call, CHAIN, [(1, 2), (0, 2), (1, 0)], 1)
            check_error(self, BadPair(2), call, CHAIN, ((1, 2), [1, 0], [0, 2]), 0)
            check_error(self, BadState(0), call, CHAIN, [(1, 2), (0, 2)], 3)


class Thirds(unittest.TestCase):
    def test_each_three_arrows(self):
        for table in TABLES[::2]:
            for place, three in enumerate(combinations(table.arrows(), 3)):
                if place % 9 == 0:
                    given = [list(three[2]), three[0], three[1]]
                    for c in range(table.size):
                        self.assertEqual(third_sum(table, *given, c), slow_third_sum(table, three, c))
                        self.assertEqual(rounds(table, *given, c), slow_rounds(table, three, c))
                        self.assertEqual(rounds(table, *given, c), third_sum(table, *given, c))

    def test_edges(self):
        table = complete(4)
        self.assertEqual([rounds(table, (0, 1), (1, 2), (2, 0), c) for c in range(4)],
                         [third_sum(table, (0, 1), (1, 2), (2, 0), c) for c in range(4)])
        ring = [(0, 1), (1, 2), (2, 0)]
        self.assertEqual(third_sum(table, *ring, 3), slow_third_sum(table, ring, 3))
        # Arrows with the same tail are allowed.
        for three in (((0, 1), (0, 2), (0, 3)), ((0, 1), (0, 2), (1, 0))):
            expected = slow_third_sum(table, three, 3)
            self.assertEqual((rounds(table, *three, 3), third_sum(table, *three, 3)), (expected, expected))
            self.assertNotEqual(expected, 0)
        for three, c in ((((0, 1), (2, 3), (6, 7)), 4), (((7, 1), (1, 7), (2, 5)), 5)):
            self.assertEqual(rounds(EIGHT, *three, c), third_sum(EIGHT, *three, c))

    def test_errors(self):
        for call in (rounds, third_sum):
            for c in (0, 2, True, 3):
                check_arrows_named(self, lambda *three, call=call, c=c: call(CHAIN, *three, c), CHAIN,
                                   [(0, 1), (1, 2), (2, 0)])
            check_states_named(self, call, CHAIN, ((0, 1), (1, 2), [2, 0], 0), at=(3,))


if __name__ == "__main__":
    unittest.main()
