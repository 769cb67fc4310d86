"""lastingshares.aims: ratios, means and costs, their fractions, pushes and words."""

import unittest
from fractions import Fraction

from lastingshares.aims import Aim, Cost, Mean, Ratio, of_scaled
from lastingshares.chains import Chain
from lastingshares.errors import BadCosts, BadRow, BadState, NoTree, SameState
from lastingshares.tables import Table
from support import (CHAINS, MIXED, aims_for, check_aims_named, check_error, check_states_named, complete, empty,
                     slow_aim_push, slow_pair)

CHAIN = Chain([[0, 2, 0], [1, 0, 3], [4, 0, 0]])
CUT = Table([[0, 5, 0, 0], [4, 0, 0, 0], [0, 3, 0, 7], [0, 0, 9, 0]])
COSTS = [[0, 1, 0], [0, 0, 0], [0, 0, 0]]
TABLES = MIXED[::2] + CHAINS[::9]


def parts_of(number):
    return (number.numerator, number.denominator)


class Base(unittest.TestCase):
    def test_an_object_of_the_base_class(self):
        self.assertEqual((Aim().word(), Aim.WORD), ("aim", "aim"))
        self.assertIsNone(Aim().check(3))

    def test_classes(self):
        self.assertEqual([kind.WORD for kind in (Ratio, Mean, Cost)], ["ratio", "mean", "cost"])
        self.assertEqual([kind.__bases__ for kind in (Ratio, Mean, Cost)], [(Aim,)] * 3)


class Making(unittest.TestCase):
    def test_attributes(self):
        ratio = Ratio(2, 0)
        self.assertEqual((ratio.over, ratio.under), (2, 0))
        self.assertEqual((Mean([1, 2]).row, Mean((1, 2)).row), ((1, 2), (1, 2)))
        cost = Cost([1, 2], [[0, 3], (4, 0)])
        self.assertEqual((cost.row, cost.costs), ((1, 2), ((0, 3), (4, 0))))

    def test_what_is_no_list_is_kept(self):
        for thing in (None, 7, "012", {0: 1}):
            self.assertEqual(Mean(thing).row, thing)
            cost = Cost(thing, thing)
            self.assertEqual((cost.row, cost.costs), (thing, thing))
            self.assertEqual(Cost([1], [thing, [0, True]]).costs, (thing, (0, True)))
            self.assertEqual((Ratio(thing, 9).over, Ratio(9, thing).under), (thing, thing))

    def test_lists_may_change_later(self):
        row, costs = [1, 2, 3], [[0, 1, 2], [3, 0, 4], [5, 6, 0]]
        mean, cost = Mean(row), Cost(row, costs)
        row[0] = 9
        costs[0][1] = 9
        costs[2] = None
        self.assertEqual((mean.row, cost.row), ((1, 2, 3), (1, 2, 3)))
        self.assertEqual(cost.costs, ((0, 1, 2), (3, 0, 4), (5, 6, 0)))

    def test_equal_aims(self):
        aims = [Ratio(0, 1), Ratio(1, 0), Ratio(0, 2), Mean([0, 1]), Mean([0, 2]), Mean([0, 1, 0]),
                Cost([0, 1], [[0, 1]]), Cost([0, 1], [[0, 2]]), Cost([0, 2], [[0, 1]]), Aim()]
        again = [Ratio(0, 1), Ratio(1, 0), Ratio(0, 2), Mean((0, 1)), Mean([0, 2]), Mean((0, 1, 0)),
                 Cost((0, 1), ((0, 1),)), Cost([0, 1], ([0, 2],)), Cost([0, 2], [(0, 1)])]
        for place, one in enumerate(aims):
            for other_place, other in enumerate(again):
                self.assertIs(one == other, place == other_place)
                self.assertIs(other == one, place == other_place)
                self.assertIs(one != other, place != other_place)
        for aim in again:
            for thing in (None, 0, (0, 1), aim.word()):
                self.assertIs(aim == thing, False)

    def test_words(self):
        self.assertEqual([Ratio(0, 2).word(), Mean([1, 0, -2]).word(), Cost([3, -10 ** 12], [[0, 1], [1, 0]]).word()],
                         ["ratio 0 2", "mean 1 0 -2", "cost 3 -1000000000000"])
        self.assertEqual(Mean([10 ** 5000, -10 ** 5000]).word(), "mean 1" + "0" * 5000 + " -1" + "0" * 5000)


class Checks(unittest.TestCase):
    def test_aims_that_fit(self):
        for size in range(2, 9):
            for aim in aims_for(size)[:4] + [Ratio(size - 1, 0), Cost([0] * size, [[0] * size] * size)]:
                self.assertIsNone(aim.check(size))

    def test_aims_that_do_not_fit(self):
        check_aims_named(self, lambda aim: aim.check(3))
        check_error(self, BadState(1), Ratio(0, 2).check, 2)
        check_error(self, BadRow(-1), Mean([1, 2, 3]).check, 8)
        check_error(self, BadCosts(-1, -1), Cost([1, 2], [[0] * 3] * 3).check, 2)


class Fractions(unittest.TestCase):
    def test_pairs(self):
        for table in TABLES:
            for aim in aims_for(table.size):
                found = aim.pair_in(table)
                self.assertEqual((type(found), found), (tuple, slow_pair(aim, table)))

    def test_fractions(self):
        for table in TABLES:
            for aim in aims_for(table.size):
                u, v = slow_pair(aim, table)
                if v == 0:
                    check_error(self, NoTree(), aim, table)
                else:
                    self.assertEqual(aim(table), parts_of(Fraction(u, v)))

    def test_edges(self):
        self.assertEqual([Ratio(0, 2)(CHAIN), Mean([1, 0, 2])(CHAIN), Cost([0, 0, 0], COSTS)(CHAIN)],
                         [(8, 3), (14, 15), (16, 15)])
        self.assertEqual((Ratio(2, 0)(CUT), Ratio(2, 0).pair_in(CUT)), ((0, 1), slow_pair(Ratio(2, 0), CUT)))
        check_error(self, NoTree(), Ratio(0, 2), CUT)
        check_error(self, NoTree(), Mean([1] * 8), empty(8))
        check_error(self, NoTree(), Cost([1] * 8, [[0] * 8] * 8), empty(8))
        self.assertEqual((Mean([1] * 8).pair_in(empty(8)), Ratio(0, 1).pair_in(empty(8))), ((0, 0), (0, 0)))
        great = complete(8) * 10 ** 12
        costs = [[0 if x == y else -10 ** 12 for y in range(8)] for x in range(8)]
        self.assertEqual(Cost([10 ** 12] * 8, costs)(great), (10 ** 12 - 7 * 10 ** 24, 1))
        self.assertEqual((Ratio(7, 0)(great), Mean([10 ** 12] * 7 + [0])(great)), ((1, 1), (875 * 10 ** 9, 1)))

    def test_errors(self):
        check_aims_named(self, lambda aim: aim.pair_in(CHAIN))
        check_aims_named(self, lambda aim: aim(CHAIN))
        check_aims_named(self, lambda aim: aim(empty(3)))

    def test_scaled_worlds(self):
        for table in TABLES:
            for aim in aims_for(table.size):
                for scale in (1, 6):
                    # All rates of the table as multiples of 1 : scale; the sums of trees have the same proportions.
                    u, v = slow_pair(aim, table)
                    if isinstance(aim, Cost):
                        states = slow_pair(Mean(aim.row), table)[0]
                        u, v = scale * states + (u - states), scale * v
                    if v == 0:
                        check_error(self, NoTree(), of_scaled, aim, (scale, table))
                    else:
                        self.assertEqual(of_scaled(aim, (scale, table)), parts_of(Fraction(u, v)))
                        self.assertEqual(of_scaled(aim, (scale, table * scale)), aim(table))
        check_aims_named(self, lambda aim: of_scaled(aim, (2, CHAIN)))


class Pushes(unittest.TestCase):
    def test_each_pair(self):
        for table in TABLES:
            for aim in aims_for(table.size):
                for a, b in table.pairs_of(table.size):
                    self.assertEqual(aim.push_at(table, a, b), slow_aim_push(aim, table, a, b))

    def test_edges(self):
        self.assertEqual(Mean([1, 0, 0]).push_at(CHAIN, 1, 2), 3)
        # With g = 2, 0, 0 this is Q(01|g) + T = 2*(0 - 7) + 30.
        self.assertEqual(Cost([0, 0, 0], COSTS).push_at(CHAIN, 0, 1), 16)
        self.assertEqual(Ratio(5, 3).push_at(complete(8), 3, 5), 2 * 8 ** 5)
        self.assertEqual(Mean([3] * 8).push_at(empty(8), 0, 1), 0)

    def test_errors(self):
        for aim in (Ratio(0, 1), Mean([1, 2, 3]), Cost([1, 2, 3], COSTS)):
            check_states_named(self, lambda table, *pair, aim=aim: aim.push_at(table, *pair), CHAIN, (0, 1),
                               same=((0, 1),))
        for a, b in ((0, 1), (True, 5), (1, 1)):
            check_aims_named(self, lambda aim, a=a, b=b: aim.push_at(CHAIN, a, b))
        check_error(self, SameState(0, 1), Mean([1, 2, 3]).push_at, CHAIN, 2, 2)


if __name__ == "__main__":
    unittest.main()
