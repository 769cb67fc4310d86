"""lastingshares.free: closed rows, other rates with the same shares, stuck arrows, rates for a row, barred rows."""

import unittest
from itertools import permutations

from lastingshares.chains import Chain
from lastingshares.errors import BadPair, BadRow, NotReached
from lastingshares.free import (barred_row, has_closed_row, leaves_open, other_rates, rates_for, shares_tell,
                                stuck_arrow)
from lastingshares.tables import Table
from support import (SHAPES, check_arrow_lists_named, check_error, check_pairs_named, check_shares_named, complete,
                     is_balanced_at, is_share_row_of, several_rates, shape_of, slow_lowest_row, slow_walks)

CHAIN = Chain([[0, 2, 0], [1, 0, 3], [4, 0, 0]])
FEW = SHAPES[:19] + SHAPES[19:80:4] + SHAPES[80::6]


def some_sets(things):
    """Some of the sets of these things, the empty one and the whole one too."""
    masks = range(2 ** len(things)) if len(things) < 5 else [0, 1, 2 ** len(things) - 1] + [
        number * 2654435761 % 2 ** len(things) for number in range(1, 12)]
    return [[thing for place, thing in enumerate(things) if mask >> place & 1] for mask in masks]


def slow_closed_row(size, pairs):
    if any(pair[::-1] in pairs for pair in pairs):
        return True
    for many in range(3, size + 1):
        for states in permutations(range(size), many):
            if all((x, y) in pairs or (y, x) in pairs for x, y in zip(states, states[1:] + states[:1])):
                return True
    return False


def without(chain, arrows):
    return Table([[0 if (x, y) in arrows else rate for y, rate in enumerate(row)] for x, row in enumerate(chain.rows)])


def slow_stuck(chain, arrows):
    return sorted((a, b) for a, b in arrows if not slow_walks(without(chain, arrows), b, a))


def each_case():
    for turn, chain in enumerate(FEW):
        for place, arrows in enumerate(some_sets(chain.arrows())):
            yield several_rates(chain, 3)[(turn + place) % 3], arrows[::-1] if place % 2 else arrows


class ClosedRows(unittest.TestCase):
    def test_against_all_sequences(self):
        seen = set()
        for size in (2, 3, 4, 5):
            for turn, pairs in enumerate(some_sets(Table.pairs_of(size)) + [
                    [(x, y) if (x + y) % 2 else (y, x) for x in range(size) for y in range(x)],
                    [(x, x + 1) if x % 2 else (x + 1, x) for x in range(size - 1)], [(0, x) for x in range(1, size)]]):
                kept = list(pairs)
                expected = slow_closed_row(size, pairs)
                self.assertIs(has_closed_row(size, pairs), expected)
                self.assertIs(has_closed_row(size, tuple(map(list, pairs[::-1]))), expected)
                self.assertEqual(pairs, kept)
                seen.add(expected)
        for chain in SHAPES:
            self.assertIs(has_closed_row(chain.size, chain.arrows()), True)
        self.assertEqual(seen, {True, False})

    def test_edges(self):
        self.assertIs(has_closed_row(3, []), False)
        self.assertIs(has_closed_row(3, [(0, 1), (1, 0)]), True)
        self.assertIs(has_closed_row(3, [(0, 1), (1, 2)]), False)
        self.assertIs(has_closed_row(3, [(0, 1), (0, 2), (1, 2)]), True)
        self.assertIs(has_closed_row(8, [(0, 1), (2, 1), (2, 3), (4, 3), (4, 5), (6, 5), (6, 7)]), False)
        self.assertIs(has_closed_row(8, [(0, 1), (2, 1), (2, 3), (4, 3), (4, 5), (6, 5), (6, 7), (0, 7)]), True)
        self.assertIs(has_closed_row(6, [(0, 1), (1, 2), (3, 4), (4, 5)]), False)
        self.assertIs(has_closed_row(6, [(0, 1), (3, 4), (4, 5), (3, 5)]), True)

    def test_errors(self):
        check_pairs_named(self, lambda pairs: has_closed_row(3, pairs))
        check_error(self, BadPair(2), has_closed_row, 8, [(0, 1), (1, 0), (8, 0)])


class OtherRates(unittest.TestCase):
    def test_the_same_shares_by_other_rates(self):
        seen = set()
        for chain, arrows in each_case():
            kept = list(arrows)
            expected = slow_closed_row(chain.size, arrows)
            self.assertIs(shares_tell(chain, arrows), not expected)
            found = other_rates(chain, arrows)
            self.assertEqual(arrows, kept)
            seen.add(expected)
            if not expected:
                self.assertIsNone(found)
                continue
            scale, other = found
            self.assertEqual((type(found), type(scale), type(other)), (tuple, int, Chain))
            self.assertGreaterEqual(scale, 1)
            self.assertEqual(shape_of(other), shape_of(chain))
            changed = [pair for pair in chain.arrows() if other[pair] != scale * chain[pair]]
            self.assertTrue(changed and all(pair in arrows for pair in changed))
            row = slow_lowest_row(chain)
            self.assertTrue(is_balanced_at(other, row))
            self.assertTrue(chain.size == 5 or is_share_row_of(other, row))
        self.assertEqual(seen, {True, False})

    def test_edges(self):
        for chain in (CHAIN, complete(2), complete(8)):
            self.assertIs(shares_tell(chain, []), True)
            self.assertIsNone(other_rates(chain, ()))
        for chain in (complete(2), complete(8), Chain.around([10 ** 12] * 8), complete(8) * 10 ** 12):
            self.assertIs(shares_tell(chain, chain.arrows()), False)
            scale, other = other_rates(chain, chain.arrows())
            self.assertNotEqual(other, chain * scale)
            self.assertTrue(is_balanced_at(other, [1] * chain.size))
        self.assertIs(shares_tell(CHAIN, [(1, 0), (1, 2)]), True)
        self.assertIs(shares_tell(CHAIN, [(2, 0), (0, 1), (1, 2)]), False)
        self.assertIs(shares_tell(CHAIN, [(2, 0), (1, 0), (1, 2)]), False)

    def test_errors(self):
        for call in (shares_tell, other_rates):
            check_arrow_lists_named(self, lambda arrows, call=call: call(CHAIN, arrows))


class StuckArrows(unittest.TestCase):
    def test_the_least_one(self):
        seen = set()
        for chain, arrows in each_case():
            stuck = slow_stuck(chain, arrows)
            kept = list(arrows)
            self.assertEqual(stuck_arrow(chain, arrows), stuck[0] if stuck else None)
            self.assertIs(leaves_open(chain, tuple(map(list, arrows))), not stuck)
            self.assertEqual(arrows, kept)
            seen.add(bool(stuck))
        self.assertEqual(seen, {True, False})

    def test_edges(self):
        for chain in (CHAIN, complete(2), complete(8), Chain.around([7] * 8)):
            self.assertEqual((stuck_arrow(chain, []), leaves_open(chain, ())), (None, True))
            self.assertEqual(stuck_arrow(chain, chain.arrows()), (0, 1))
            self.assertIs(leaves_open(chain, chain.arrows()), False)
        self.assertEqual(stuck_arrow(CHAIN, [(1, 0), (0, 1)]), (1, 0))
        # In a hanging chain it matters whether a ring has two of the arrows.
        self.assertIsNone(stuck_arrow(CHAIN, [(0, 1)]))
        self.assertEqual(stuck_arrow(CHAIN, [(2, 0), (1, 2)]), (1, 2))
        self.assertIsNone(stuck_arrow(CHAIN, [(1, 0), (1, 2)]))

    def test_errors(self):
        for call in (stuck_arrow, leaves_open, barred_row):
            check_arrow_lists_named(self, lambda arrows, call=call: call(CHAIN, arrows))


class RatesForRows(unittest.TestCase):
    def is_lot_before(self, chain, arrows, lot):
        """True if the lot has the tail and not the head of a stuck arrow, and no other arrow leads into it."""
        inner = set(lot)
        return ((type(lot), lot) == (tuple, tuple(sorted(inner)))
                and any(a in inner and b not in inner for a, b in slow_stuck(chain, arrows))
                and not any(x not in inner and y in inner for x, y in chain.arrows() if (x, y) not in arrows))

    def test_rates_or_a_lot(self):
        seen = set()
        for turn, (chain, arrows) in enumerate(each_case()):
            stuck = slow_stuck(chain, arrows)
            rows = [[1] * chain.size, [1 + (x * 7 + turn) % 5 for x in range(chain.size)],
                    [10 ** 6 if x == turn % chain.size else 1 for x in range(chain.size)]]
            for row in rows:
                kept = (list(arrows), list(row))
                seen.add(bool(stuck))
                if stuck:
                    with self.assertRaises(NotReached) as caught:
                        rates_for(chain, arrows, row)
                    self.assertTrue(self.is_lot_before(chain, arrows, caught.exception.lot))
                    continue
                found = rates_for(chain, arrows, row)
                scale, other = found
                self.assertEqual((arrows, row), kept)
                self.assertEqual((type(found), type(scale), type(other)), (tuple, int, Chain))
                self.assertGreaterEqual(scale, 1)
                self.assertEqual(shape_of(other), shape_of(chain))
                self.assertEqual([other[pair] for pair in arrows], [scale * chain[pair] for pair in arrows])
                self.assertTrue(is_balanced_at(other, row))
            self.assertTrue(stuck or chain.size == 5 or is_share_row_of(other, row))
        self.assertEqual(seen, {True, False})

    def test_rows_that_cannot_be_had(self):
        seen = set()
        for chain, arrows in each_case():
            stuck = slow_stuck(chain, arrows)
            found = barred_row(chain, arrows)
            seen.add(bool(stuck))
            if not stuck:
                self.assertIsNone(found)
                continue
            lot, row = found
            self.assertEqual((type(found), type(row), len(row)), (tuple, tuple, chain.size))
            self.assertTrue(self.is_lot_before(chain, arrows, lot))
            self.assertTrue(all(type(entry) is int and entry >= 1 for entry in row))
            into = sum(row[a] * chain[a, b] for a, b in arrows if a not in lot and b in lot)
            out = sum(row[a] * chain[a, b] for a, b in arrows if a in lot and b not in lot)
            self.assertLess(into, out)
        self.assertEqual(seen, {True, False})

    def test_edges(self):
        for chain in (CHAIN, complete(2), complete(8), complete(8) * 10 ** 12):
            row = list(range(1, chain.size + 1))
            scale, other = rates_for(chain, [], row)
            self.assertEqual((shape_of(other), is_balanced_at(other, row)), (shape_of(chain), True))
            self.assertIsNone(barred_row(chain, []))
            self.assertIsNotNone(barred_row(chain, chain.arrows()))
            with self.assertRaises(NotReached):
                rates_for(chain, chain.arrows(), slow_lowest_row(chain) if chain.size < 8 else [1] * 8)
        ring = Chain.around([10 ** 12] * 8)
        scale, other = rates_for(ring, [(7, 0)], [10 ** 6, 1, 1, 1, 1, 1, 1, 999999])
        self.assertEqual(other[7, 0], scale * 10 ** 12)
        self.assertTrue(is_balanced_at(other, [10 ** 6, 1, 1, 1, 1, 1, 1, 999999]))
        # Told arrows one behind the other: the free arrow 12 is on a ring only with both of them.
        chain = Chain.of_arrows(4, [(0, 1), (1, 2), (2, 3), (3, 0), (1, 0), (3, 2)])
        scale, other = rates_for(chain, [(0, 1), (2, 3)], [5, 1, 1, 3])
        self.assertEqual((other[0, 1], other[2, 3], is_balanced_at(other, [5, 1, 1, 3])), (scale, scale, True))
        self.assertEqual(shape_of(other), shape_of(chain))

    def test_errors(self):
        check_arrow_lists_named(self, lambda arrows: rates_for(CHAIN, arrows, [1, 1, 1]))
        check_arrow_lists_named(self, lambda arrows: rates_for(CHAIN, arrows, None))
        for arrows in ([], [(0, 1)], CHAIN.arrows()):
            check_shares_named(self, lambda row, arrows=arrows: rates_for(CHAIN, arrows, row))
        check_error(self, BadRow(0), rates_for, CHAIN, CHAIN.arrows(), [0, 0, 0])


if __name__ == "__main__":
    unittest.main()
