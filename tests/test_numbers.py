"""lastingshares.numbers: fractions, and the checks of rows, sets and states."""

import unittest
from fractions import Fraction

from lastingshares.errors import BadNumber, BadRow, BadSet, BadState, SameState
from lastingshares.numbers import (check_states, fraction, is_int, is_less, lot_of, row_of, sign_of, states_of)
from support import check_error

NO_LISTS = [None, 3, True, "01", {0: 1}, {0, 1}, range(2), iter([0, 1]), b"ab"]
NO_INTEGERS = [True, False, None, "1", 1.0, (1,), [1], Fraction(1)]


class Integers(unittest.TestCase):
    def test_is_int(self):
        for thing in (0, 1, -1, 10 ** 40):
            self.assertIs(is_int(thing), True)
        for thing in NO_INTEGERS:
            self.assertIs(is_int(thing), False)

    def test_sign_of(self):
        for number, sign in ((7, 1), (1, 1), (0, 0), (-1, -1), (-10 ** 30, -1)):
            self.assertEqual(sign_of(number), sign)
            self.assertIs(type(sign_of(number)), int)


class Fractions(unittest.TestCase):
    def test_fraction_in_lowest_terms(self):
        for u in range(-12, 13):
            for v in [number for number in range(-12, 13) if number != 0]:
                exact = Fraction(u, v)
                self.assertEqual(fraction(u, v), (exact.numerator, exact.denominator))
        self.assertIs(type(fraction(6, 4)), tuple)
        self.assertEqual(fraction(6 * 10 ** 40, -4 * 10 ** 40), (-3, 2))

    def test_fraction_zero_and_negative_second_numbers(self):
        self.assertEqual(fraction(0, 7), (0, 1))
        self.assertEqual(fraction(0, -7), (0, 1))
        self.assertEqual(fraction(4, -6), (-2, 3))
        self.assertEqual(fraction(-4, -6), (2, 3))

    def test_fraction_errors(self):
        for thing in NO_INTEGERS:
            check_error(self, BadNumber("u"), fraction, thing, 1)
            check_error(self, BadNumber("v"), fraction, 1, thing)
        check_error(self, BadNumber("v"), fraction, 1, 0)
        check_error(self, BadNumber("v"), fraction, 0, 0)
        check_error(self, BadNumber("u"), fraction, True, 0)
        check_error(self, BadNumber("u"), fraction, None, False)

    def test_is_less(self):
        numbers = [(u, v) for u in range(-4, 5) for v in range(1, 5)]
        for one in numbers:
            for other in numbers:
                self.assertIs(is_less(one, other), Fraction(*one) < Fraction(*other))
        self.assertIs(is_less((2, 4), (1, 2)), False)
        self.assertIs(is_less((0, 5), (0, 1)), False)


class Rows(unittest.TestCase):
    def test_row_of(self):
        given = [3, -1, 0]
        self.assertEqual(row_of(3, given), (3, -1, 0))
        self.assertEqual(row_of(2, (0, 5)), (0, 5))
        self.assertEqual(row_of(0, []), ())
        self.assertIs(type(row_of(3, given)), tuple)
        self.assertEqual(given, [3, -1, 0])

    def test_row_of_errors(self):
        for thing in NO_LISTS + [[], [1], (1, 2, 3), [None, None, None]]:
            check_error(self, BadRow(-1), row_of, 2, thing)
        for thing in NO_INTEGERS:
            check_error(self, BadRow(0), row_of, 2, [thing, 1])
            check_error(self, BadRow(1), row_of, 2, (1, thing))
            check_error(self, BadRow(0), row_of, 2, (thing, thing))


class Sets(unittest.TestCase):
    def test_states_of(self):
        given = [4, 0, 2]
        self.assertEqual(states_of(5, given), (0, 2, 4))
        self.assertEqual(given, [4, 0, 2])
        self.assertEqual(states_of(5, ()), ())
        self.assertEqual(states_of(5, []), ())
        self.assertEqual(states_of(3, (2, 1, 0)), (0, 1, 2))
        self.assertIs(type(states_of(5, given)), tuple)

    def test_lot_of(self):
        self.assertEqual(lot_of(3, [2, 0]), (0, 2))
        self.assertEqual(lot_of(2, (1,)), (1,))
        self.assertIs(type(lot_of(3, [2, 0])), tuple)

    def test_errors_of_both(self):
        for call in (states_of, lot_of):
            for thing in NO_LISTS:
                check_error(self, BadSet(-1), call, 3, thing)
            for thing in NO_INTEGERS + [-1, 3, 10 ** 20]:
                check_error(self, BadSet(0), call, 3, [thing])
                check_error(self, BadSet(1), call, 3, (2, thing, thing))
            check_error(self, BadSet(2), call, 3, [0, 1, 0])
            check_error(self, BadSet(1), call, 3, [0, 0, 7])
            check_error(self, BadSet(1), call, 3, [0, 7, 0])
            check_error(self, BadSet(3), call, 3, [0, 1, 2, 2])

    def test_lot_of_errors(self):
        check_error(self, BadSet(-2), lot_of, 3, [])
        check_error(self, BadSet(-2), lot_of, 3, (2, 1, 0))
        check_error(self, BadSet(-2), lot_of, 2, [0, 1])


class States(unittest.TestCase):
    def test_good_states(self):
        self.assertIsNone(check_states(3, [0, 2, 1, 2]))
        self.assertIsNone(check_states(3, ()))
        self.assertIsNone(check_states(3, (0, 0, 1), [(0, 2), (1, 2)]))
        self.assertIsNone(check_states(3, (0, 0, 1), ()))

    def test_bad_states(self):
        for thing in NO_INTEGERS + [-1, 3]:
            check_error(self, BadState(0), check_states, 3, [thing])
            check_error(self, BadState(2), check_states, 3, (0, 1, thing, thing))
            check_error(self, BadState(2), check_states, 3, (0, 0, thing), ((0, 1),))

    def test_same_states(self):
        check_error(self, SameState(0, 1), check_states, 3, (1, 1), ((0, 1),))
        check_error(self, SameState(2, 3), check_states, 4, (1, 1, 0, 0), [(0, 2), (2, 3), (0, 1)])
        check_error(self, SameState(0, 1), check_states, 4, (1, 1, 0, 0), [(0, 2), (0, 1), (2, 3)])


if __name__ == "__main__":
    unittest.main()
