"""lastingshares.compared: the gaps between two tables, their terms, and the changed pairs."""

import unittest
from itertools import product

from lastingshares.chains import Chain
from lastingshares.compared import (chance_gap, chance_terms, changed_pairs, long_gap, long_terms, mean_gap, mean_terms,
                                    ratio_gap, ratio_terms, share_gap, two_sized)
from lastingshares.errors import OtherSize
from lastingshares.tables import Table
from support import (GREAT, MIXED, check_error, check_new_list, check_rows_named, check_states_named, complete, empty,
                     slow_long, slow_mean_push, slow_push, slow_share_push, slow_sum, slow_trees_of)

ROWS = [(0, 0, 0, 0, 0), (1, -2, 3, 5, -7), (10 ** 12, -10 ** 12, 0, 1, 2)]
OLD = Chain([[0, 1, 1], [1, 0, 2], [1, 0, 0]])
NEW = Table([[0, 3, 1], [0, 0, 2], [1, 4, 0]])


def couples():
    """Two tables each: unlike ones, equal ones, and such that differ in one pair, be it an arrow or not."""
    found = []
    for size in (2, 3, 4, 5):
        group = [table for table in MIXED if table.size == size][:2 if size == 5 else 12]
        found += list(zip(group, group[1:]))
        for place, table in enumerate(group[1::3]):
            x, y = table.pairs_of(size)[place]
            found += [(table, table), (table, table.with_rate(x, y, 7)), (table.with_rate(x, y, 9), table)]
    return found + [(GREAT[1], GREAT[3]), (GREAT[10], GREAT[12])]


COUPLES = couples()


def changes(old, new):
    """Each changed pair with its raise."""
    return [(a, b, new.rows[a][b] - old.rows[a][b]) for a, b in product(range(old.size), repeat=2)
            if new.rows[a][b] != old.rows[a][b]]


def check_other_sizes(case, call, *wrong):
    """Fails if the call does not name the size of the second table ahead of wrong arguments."""
    for old, new in ((OLD, complete(4)), (empty(8), OLD), (complete(2), empty(3))):
        check_error(case, OtherSize(new.size), call, old, new, *wrong)


class Pairs(unittest.TestCase):
    def test_sizes(self):
        for old, new in COUPLES:
            self.assertEqual(two_sized(old, new), old.size)
        self.assertEqual((two_sized(empty(2), complete(2)), two_sized(empty(8), empty(8))), (2, 8))
        check_other_sizes(self, two_sized)

    def test_changed_pairs(self):
        for old, new in COUPLES:
            self.assertEqual(changed_pairs(old, new), [(a, b) for a, b, _ in changes(old, new)])
        self.assertEqual(changed_pairs(OLD, NEW), [(0, 1), (1, 0), (2, 1)])
        self.assertEqual(changed_pairs(empty(8), complete(8)), Table.pairs_of(8))
        self.assertEqual(changed_pairs(complete(8), complete(8)), [])
        check_new_list(self, changed_pairs, OLD, NEW)
        check_other_sizes(self, changed_pairs)


class Ratios(unittest.TestCase):
    def test_each_two_states(self):
        for old, new in COUPLES:
            before, after = slow_trees_of(old), slow_trees_of(new)
            for c, e in old.pairs_of(old.size):
                gap = after[c] * before[e] - after[e] * before[c]
                self.assertEqual(ratio_gap(old, new, c, e), gap)
                terms = [(a, b, after[a] * rise * slow_push(old, a, b, c, e)) for a, b, rise in changes(old, new)]
                self.assertEqual(ratio_terms(old, new, c, e), terms)
                self.assertEqual(sum(term for _, _, term in terms), gap)

    def test_edges(self):
        self.assertEqual((ratio_gap(empty(8), complete(8), 0, 1), ratio_gap(complete(8), complete(8), 3, 1)), (0, 0))
        self.assertEqual(ratio_terms(OLD, OLD, 0, 1), [])
        # All terms stand in the list, those that are 0 too, and those of pairs out of c and e.
        self.assertEqual(ratio_terms(empty(3), complete(3), 0, 1),
                         [(a, b, 3 * slow_push(empty(3), a, b, 0, 1)) for a, b in Table.pairs_of(3)])
        self.assertEqual([term for _, _, term in ratio_terms(empty(8), complete(8), 0, 1)], [0] * 56)
        great = complete(8) * 10 ** 12
        self.assertEqual(ratio_terms(great, great.with_rate(3, 5, 1), 5, 3),
                         [(3, 5, 8 ** 6 * 10 ** 84 * (1 - 10 ** 12) * 2 * 8 ** 5 * 10 ** 72)])

    def test_errors(self):
        for call in (ratio_gap, ratio_terms):
            check_states_named(self, call, OLD, (NEW, 0, 1), same=((0, 1),), at=(1, 2))
            check_other_sizes(self, call, True, True)
            check_other_sizes(self, call, 0, 0)
        check_new_list(self, ratio_terms, OLD, NEW, 0, 1)


class Means(unittest.TestCase):
    def test_each_row(self):
        for old, new in COUPLES:
            before, after = slow_trees_of(old), slow_trees_of(new)
            for row in ROWS:
                given = list(row[:old.size])
                gap = sum(f * t for f, t in zip(given, after)) * sum(before)
                gap -= sum(f * t for f, t in zip(given, before)) * sum(after)
                self.assertEqual(mean_gap(old, new, given), gap)
                terms = [(a, b, after[a] * rise * slow_mean_push(old, a, b, given)) for a, b, rise in changes(old, new)]
                self.assertEqual(mean_terms(old, new, tuple(given)), terms)
                self.assertEqual(sum(term for _, _, term in terms), gap)
                self.assertEqual(given, list(row[:old.size]))

    def test_each_share(self):
        for old, new in COUPLES:
            before, after = slow_trees_of(old), slow_trees_of(new)
            for c in range(old.size):
                self.assertEqual(share_gap(old, new, c), after[c] * sum(before) - before[c] * sum(after))
                row = [1 if x == c else 0 for x in range(old.size)]
                self.assertEqual(share_gap(old, new, c), mean_gap(old, new, row))

    def test_edges(self):
        self.assertEqual((mean_terms(OLD, OLD, [1, 2, 3]), mean_gap(OLD, OLD, [1, 2, 3]), share_gap(OLD, OLD, 1)),
                         ([], 0, 0))
        self.assertEqual(mean_terms(OLD, NEW, [5, 5, 5]), [(0, 1, 0), (1, 0, 0), (2, 1, 0)])
        self.assertEqual(mean_gap(empty(8), complete(8), [1] * 8), 0)
        faster = complete(8).with_rate(3, 5, 11)
        self.assertEqual(mean_terms(complete(8), faster, [0, 0, 0, 0, 0, 1, 0, 0]), [(3, 5, 8 ** 6 * 10 * 8 ** 6)])
        self.assertEqual(share_gap(complete(8), faster, 5), 8 ** 6 * 10 * 8 ** 6)

    def test_errors(self):
        check_states_named(self, share_gap, OLD, (NEW, 0), at=(1,))
        check_other_sizes(self, share_gap, True)
        for call in (mean_gap, mean_terms):
            check_rows_named(self, lambda row, call=call: call(OLD, NEW, row))
            check_other_sizes(self, call, None)
        check_new_list(self, mean_terms, OLD, NEW, [1, 2, 3])


class Chances(unittest.TestCase):
    def test_each_three_states(self):
        for old, new in COUPLES[::2]:
            for c, e in old.pairs_of(old.size):
                for x in range(old.size):
                    gap = slow_sum(old, [c, e]) * slow_sum(new, [c, e], [(x, c)])
                    gap -= slow_sum(new, [c, e]) * slow_sum(old, [c, e], [(x, c)])
                    self.assertEqual(chance_gap(old, new, x, c, e), gap)
                    terms = [(a, b, slow_sum(new, [c, e, a], [(x, a)]) * rise * slow_push(old, a, b, c, e))
                             for a, b, rise in changes(old, new) if a not in (c, e)]
                    self.assertEqual(chance_terms(old, new, x, c, e), terms)
                    self.assertEqual(sum(term for _, _, term in terms), gap)

    def test_edges(self):
        self.assertEqual(chance_terms(OLD, NEW, 0, 1, 2), [(0, 1, 2)])
        self.assertEqual(chance_terms(complete(2), complete(2) * 3, 0, 0, 1), [])
        self.assertEqual(chance_gap(empty(2), complete(2), 0, 0, 1), 0)
        # From c and from e the chance stays, and the terms are 0.
        self.assertEqual([chance_terms(OLD, NEW, x, 1, 2) for x in (1, 2)], [[(0, 1, 0)]] * 2)
        self.assertEqual(len(chance_terms(empty(8), complete(8), 5, 1, 2)), 42)

    def test_errors(self):
        for call in (chance_gap, chance_terms):
            check_states_named(self, call, OLD, (NEW, 0, 1, 2), same=((1, 2),), at=(1, 2, 3))
            check_states_named(self, call, OLD, (NEW, 1, 1, 2), same=((1, 2),), at=(1, 2, 3))
            check_other_sizes(self, call, 0, 1, True)
            check_other_sizes(self, call, 0, 1, 1)
        check_new_list(self, chance_terms, OLD, NEW, 0, 1, 2)


class Longs(unittest.TestCase):
    def test_each_two_states(self):
        for old, new in COUPLES[::2]:
            for x, c in product(range(old.size), repeat=2):
                gap = slow_sum(new, [c]) * slow_long(old, x, c) - slow_sum(old, [c]) * slow_long(new, x, c)
                self.assertEqual(long_gap(old, new, x, c), gap)
                terms = [(a, b, slow_sum(new, [c, a], [(x, a)]) * rise * slow_share_push(old, a, b, c))
                         for a, b, rise in changes(old, new) if a != c]
                self.assertEqual(long_terms(old, new, x, c), terms)
                self.assertEqual(sum(term for _, _, term in terms), gap)

    def test_edges(self):
        self.assertEqual([(a, b) for a, b, _ in long_terms(OLD, NEW, 0, 1)], [(0, 1), (2, 1)])
        self.assertEqual((long_gap(OLD, NEW, 1, 1), long_terms(OLD, NEW, 1, 1)), (0, [(0, 1, 0), (2, 1, 0)]))
        self.assertEqual((long_gap(OLD, OLD, 0, 1), long_terms(OLD, OLD, 0, 1)), (0, []))
        self.assertEqual(len(long_terms(empty(8), complete(8), 5, 1)), 49)

    def test_errors(self):
        for call in (long_gap, long_terms):
            check_states_named(self, call, OLD, (NEW, 0, 1), at=(1, 2))
            check_other_sizes(self, call, 0, None)
        check_new_list(self, long_terms, OLD, NEW, 0, 1)


if __name__ == "__main__":
    unittest.main()
