"""lastingshares.forests: all forests with given roots, trees, and what can be asked of one forest."""

import unittest
from itertools import islice, product

from lastingshares.chains import Chain
from lastingshares.errors import BadForest, BadSet, BadState
from lastingshares.forests import (forest_arrows, forest_of, forest_weight, forests, lead, lead_row, roots_in,
                                   trees)
from lastingshares.tables import Table
from support import (MIXED, TABLES, all_roots, check_error, check_new_list, check_sets_named, check_states_named,
                     complete, empty, has_ring, lead_of, slow_forests, slow_trees, weight_of)

CHAIN = Chain([[0, 2, 0], [1, 0, 3], [4, 0, 0]])


class AllForests(unittest.TestCase):
    def test_all_forests_ascending(self):
        for table in TABLES[:140]:
            for roots in all_roots(table.size):
                kept = list(roots)
                found = list(forests(table, roots))
                self.assertEqual(found, slow_forests(table, roots))
                self.assertEqual(found, sorted(set(found)))
                self.assertEqual(list(forests(table, tuple(roots))), found)
                self.assertEqual(roots, kept)

    def test_kinds(self):
        self.assertEqual([type(forest) for forest in forests(CHAIN, [0])], [tuple, tuple])

    def test_all_states_as_roots(self):
        for size in (2, 5, 8):
            for table in (empty(size), complete(size)):
                self.assertEqual(list(forests(table, list(range(size)))), [tuple(range(size))])

    def test_no_arrows(self):
        self.assertEqual(list(forests(empty(8), [0, 1, 2, 3, 4, 5, 6])), [])
        self.assertEqual(list(forests(empty(2), [1])), [])

    def test_the_first_ones_of_eight_states(self):
        found = list(islice(forests(complete(8), [7]), 3))
        self.assertEqual(found, [(1, 2, 3, 4, 5, 6, 7, 7), (1, 2, 3, 4, 5, 7, 0, 7), (1, 2, 3, 4, 5, 7, 1, 7)])
        self.assertEqual(next(forests(complete(8), [0])), (0, 0, 0, 0, 0, 0, 0, 0))
        late = complete(8)
        for x in range(1, 7):
            late = Table(late.rows).with_rate(x, 0, 0)
        self.assertEqual(next(forests(late, [0])), (0, 2, 3, 4, 5, 6, 7, 0))
        cut = Table(late.rows).with_rate(7, 0, 0)
        self.assertEqual(list(forests(cut, [0])), [])

    def test_a_great_number_of_forests(self):
        found = list(forests(complete(7), [3]))
        self.assertEqual((len(found), found == sorted(set(found))), (7 ** 5, True))

    def test_errors_come_when_the_iteration_begins(self):
        found = forests(CHAIN, [])
        check_error(self, BadSet(-2), next, found)
        check_error(self, BadSet(-1), next, forests(CHAIN, 0))
        check_sets_named(self, lambda roots: list(forests(CHAIN, roots)), least=1)


class Trees(unittest.TestCase):
    def test_all_trees_ascending(self):
        for table in TABLES[:140]:
            for x in range(table.size):
                self.assertEqual(trees(table, x), slow_trees(table, x))

    def test_edges(self):
        self.assertEqual(trees(complete(2), 1), [(1, 1)])
        self.assertEqual((trees(empty(2), 0), trees(empty(8), 3)), ([], []))
        self.assertEqual(trees(Chain.around([1] * 8), 5), [(1, 2, 3, 4, 5, 5, 7, 0)])
        self.assertEqual(len(trees(complete(6), 2)), 6 ** 4)

    def test_errors(self):
        check_states_named(self, trees, CHAIN, (0,))

    def test_the_list_is_new(self):
        check_new_list(self, trees, complete(3), 1)


class ForestOf(unittest.TestCase):
    def test_all_rows_of_entries(self):
        for table in [table for table in MIXED if table.size < 5]:
            for roots in all_roots(table.size):
                right = slow_forests(table, roots)
                for entries in product(range(table.size), repeat=table.size):
                    if entries in right:
                        self.assertEqual(forest_of(table, list(entries), roots), entries)
                        self.assertIs(type(forest_of(table, entries, tuple(roots))), tuple)
                    else:
                        check_error(self, BadForest(self.wrong_place(table, roots, entries)), forest_of, table,
                                    entries, roots)

    def wrong_place(self, table, roots, entries):
        for x, entry in enumerate(entries):
            if (entry != x) if x in roots else ((x, entry) not in table):
                return x
        self.assertTrue(has_ring(entries))
        return -2

    def test_arguments_stay(self):
        entries, roots = [1, 1, 0], [1]
        self.assertEqual(forest_of(CHAIN, entries, roots), (1, 1, 0))
        self.assertEqual((entries, roots), ([1, 1, 0], [1]))
        self.assertEqual(forest_of(complete(8), list(range(8)), list(range(8))), tuple(range(8)))

    def test_things_that_are_no_rows(self):
        for thing in (None, 3, True, "110", {0: 1}, {0, 1, 2}, range(3), [], [1, 1], (1, 1, 0, 0)):
            check_error(self, BadForest(-1), forest_of, CHAIN, thing, [1])

    def test_entries_that_are_no_states(self):
        for thing in (True, False, -1, 3, None, "1", (1,)):
            check_error(self, BadForest(0), forest_of, CHAIN, [thing, thing, 0], [1])
            check_error(self, BadForest(1), forest_of, CHAIN, [1, thing, 1], [1])
            check_error(self, BadForest(2), forest_of, CHAIN, (1, 1, thing), [1])
            check_error(self, BadForest(2), forest_of, CHAIN, (1, 0, thing), [2])

    def test_the_first_wrong_place_is_named(self):
        check_error(self, BadForest(1), forest_of, CHAIN, (1, 2, 1), [1])
        check_error(self, BadForest(0), forest_of, CHAIN, (0, 1, 2), [1])
        check_error(self, BadForest(0), forest_of, CHAIN, (2, 1, 1), [1])
        check_error(self, BadForest(2), forest_of, CHAIN, (1, 0, 1), [2])
        check_error(self, BadForest(-2), forest_of, CHAIN, (1, 0, 2), [2])

    def test_the_roots_are_checked_first(self):
        for thing in (None, (9, 9, 9), (1, 1, 0)):
            check_sets_named(self, lambda roots: forest_of(CHAIN, thing, roots), least=1)


class OneForest(unittest.TestCase):
    def test_each_forest(self):
        for table in MIXED:
            for roots in all_roots(table.size)[::2]:
                for forest in slow_forests(table, roots):
                    ends = tuple(lead_of(forest, x) for x in range(table.size))
                    arrows = [(x, y) for x, y in enumerate(forest) if x not in roots]
                    for given in (forest, list(forest)):
                        self.assertEqual(tuple(lead(given, x) for x in range(table.size)), ends)
                        self.assertEqual(lead_row(given), ends)
                        self.assertEqual(roots_in(given), tuple(sorted(roots)))
                        self.assertEqual(forest_arrows(given), arrows)
                        self.assertEqual(forest_weight(table, given), weight_of(table, forest))
                        self.assertEqual(tuple(given), forest)

    def test_kinds(self):
        self.assertEqual((type(lead_row([1, 1])), type(roots_in([1, 1])), type(forest_arrows((1, 1)))),
                         (tuple, tuple, list))
        self.assertEqual(forest_arrows([1, 1, 0]), [(0, 1), (2, 0)])

    def test_long_leads(self):
        forest = [1, 2, 3, 4, 5, 6, 7, 7]
        self.assertEqual((lead(forest, 0), lead(forest, 7), lead_row(forest)), (7, 7, (7,) * 8))
        self.assertEqual(lead([0, 0, 1, 2, 3, 4, 5, 6], 7), 0)

    def test_weights(self):
        self.assertEqual(forest_weight(CHAIN, [0, 1, 2]), 1)
        self.assertEqual(forest_weight(CHAIN, [1, 1, 1]), 0)
        self.assertEqual(forest_weight(empty(2), (1, 1)), 0)
        self.assertEqual(forest_weight(complete(8) * 10 ** 12, (0,) * 8), 10 ** 84)

    def test_states_are_checked(self):
        for thing in (True, False, -1, 3, None, "0", (0,)):
            check_error(self, BadState(0), lead, (1, 1, 0), thing)
        check_error(self, BadState(0), lead, [1, 1], 2)

    def test_the_list_is_new(self):
        check_new_list(self, forest_arrows, (1, 1, 0))


if __name__ == "__main__":
    unittest.main()
