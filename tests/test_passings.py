"""lastingshares.passings: costs, sums of passed costs, visits, and costs that count pairs."""

import unittest

from lastingshares.chains import Chain
from lastingshares.errors import BadCosts, BadState, TooMany
from lastingshares.passings import (costs_of, counting, pass_sum, ring_passes, steps_from, steps_into, visit_row,
                                    visits)
from lastingshares.tables import Table
from support import (CHAINS, MIXED, check_costs_named, check_error, check_new_list, check_pairs_named,
                     check_states_named, complete, costs_for, empty, slow_carried, slow_cost, slow_pass, slow_rings,
                     slow_trees_of)

CHAIN = Chain([[0, 2, 0], [1, 0, 1], [3, 0, 0]])
COSTS = [[0, 1, 0], [-2, 0, 0], [5, 0, 0]]
SINK = Table([[0, 2, 3], [1, 0, 4], [0, 0, 0]])
TABLES = MIXED[::2] + CHAINS[::6]


def wide(size):
    return Chain([[0 if x == y else 10 ** 12 - 9 * x - y for y in range(size)] for x in range(size)])


class Costs(unittest.TestCase):
    def test_costs(self):
        for size in (2, 3, 5, 8):
            for turn in range(5):
                lines = costs_for(size, turn)
                kept = [list(line) for line in lines]
                expected = tuple(map(tuple, lines))
                self.assertEqual(costs_of(size, lines), expected)
                self.assertEqual(costs_of(size, tuple(lines)), expected)
                self.assertEqual(costs_of(size, expected), expected)
                self.assertEqual({type(line) for line in costs_of(size, lines)}, {tuple})
                self.assertEqual((type(costs_of(size, lines)), lines), (tuple, kept))

    def test_what_is_made_of_a_list_does_not_change(self):
        lines = [[0, 1], [2, 0]]
        found = costs_of(2, lines)
        lines[0][1] = 9
        lines[1] = [8, 0]
        self.assertEqual(found, ((0, 1), (2, 0)))

    def test_errors(self):
        check_costs_named(self, lambda costs: costs_of(3, costs))
        check_error(self, BadCosts(-1, -1), costs_of, 3, None)
        check_error(self, BadCosts(0, 0), costs_of, 2, [[1, 1], None])
        check_error(self, BadCosts(1, -1), costs_of, 2, [[0, 1], None])


class Passings(unittest.TestCase):
    def test_sums_of_passed_costs(self):
        for place, table in enumerate(TABLES):
            for turn in range(5):
                lines = costs_for(table.size, place + turn)
                kept = [list(line) for line in lines]
                self.assertEqual(pass_sum(table, lines), slow_pass(table, lines))
                self.assertEqual(pass_sum(table, tuple(map(tuple, lines))), slow_pass(table, lines))
                self.assertEqual(lines, kept)

    def test_ring_by_ring(self):
        for place, table in enumerate(TABLES[::2]):
            lines = costs_for(table.size, place)
            expected = [(ring, slow_cost(lines, ring), slow_carried(table, ring)) for ring in slow_rings(table)]
            self.assertEqual(ring_passes(table, lines), expected)
            self.assertEqual(sum(cost * number for _, cost, number in expected), pass_sum(table, lines))

    def test_edges(self):
        self.assertEqual(pass_sum(CHAIN, COSTS), 30)
        self.assertEqual(ring_passes(CHAIN, COSTS), [((0, 1), -1, 6), ((0, 1, 2), 6, 6)])
        for size in (2, 8):
            self.assertEqual((pass_sum(empty(size), costs_for(size, 0)), ring_passes(empty(size), costs_for(size, 0))),
                             (0, []))
        # With a sink all trees lead to it, and nothing leaves it; the ring carries nothing.
        self.assertEqual((pass_sum(SINK, COSTS), ring_passes(SINK, COSTS)), (0, [((0, 1), -1, 0)]))

    def test_great_numbers(self):
        lines = [[0 if x == y else (-1) ** (x + y) * (10 ** 12 - x) for y in range(4)] for x in range(4)]
        self.assertEqual(pass_sum(wide(4), lines), slow_pass(wide(4), lines))
        # Each T_x of eight states with all arrows of rate r is 8^6 * r^7.
        chain = complete(8) * 10 ** 12
        self.assertEqual(pass_sum(chain, [[0 if x == y else -10 ** 12 for y in range(8)] for x in range(8)]),
                         -56 * 8 ** 6 * 10 ** 108)

    def test_too_many_rings(self):
        lines = [[0] * 8 for _ in range(8)]
        check_error(self, TooMany(2000), ring_passes, complete(8), lines)
        check_error(self, TooMany(2000), ring_passes, complete(7), [[0] * 7] * 7)
        self.assertEqual(len(ring_passes(complete(6), [[0] * 6] * 6)), 409)
        check_error(self, BadCosts(-1, -1), ring_passes, complete(8), [[0] * 7] * 7)
        check_error(self, BadCosts(7, 0), ring_passes, complete(8), lines[:7] + [[True] + [0] * 7])

    def test_the_list_is_new(self):
        check_new_list(self, ring_passes, CHAIN, COSTS)

    def test_errors(self):
        for call in (pass_sum, ring_passes):
            for table in (CHAIN, SINK, empty(3)):
                check_costs_named(self, lambda costs, call=call, table=table: call(table, costs))


class Visits(unittest.TestCase):
    def test_each_state(self):
        for table in TABLES:
            expected = tuple(number * sum(row) for number, row in zip(slow_trees_of(table), table.rows))
            self.assertEqual((type(visit_row(table)), visit_row(table)), (tuple, expected))
            self.assertEqual([visits(table, x) for x in range(table.size)], list(expected))

    def test_edges(self):
        self.assertEqual((visit_row(CHAIN), visit_row(SINK), visit_row(empty(2))), ((12, 12, 6), (0, 0, 0), (0, 0)))
        self.assertEqual(visit_row(complete(8)), (7 * 8 ** 6,) * 8)

    def test_errors(self):
        for table in (CHAIN, SINK):
            check_states_named(self, visits, table, (0,))


class CountingCosts(unittest.TestCase):
    def test_counted_pairs(self):
        for size in (2, 3, 8):
            pairs = Table.pairs_of(size)
            for chosen in ([], pairs, pairs[::2], pairs[:1], pairs[::-1]):
                expected = tuple(tuple(1 if (x, y) in chosen else 0 for y in range(size)) for x in range(size))
                self.assertEqual(counting(size, chosen), expected)
                self.assertEqual(counting(size, tuple(map(list, chosen))), expected)
            for x in range(size):
                into, out = steps_into(size, x), steps_from(size, x)
                self.assertEqual(into, tuple(tuple(int(b == x != a) for b in range(size)) for a in range(size)))
                self.assertEqual(out, tuple(tuple(int(a == x != b) for b in range(size)) for a in range(size)))
                self.assertEqual({type(line) for line in into + out}, {tuple})

    def test_errors(self):
        check_pairs_named(self, lambda pairs: counting(3, pairs))
        for call in (steps_into, steps_from):
            for size in (2, 5, 8):
                for thing in (True, False, -1, size, None, "0", (0,)):
                    check_error(self, BadState(0), call, size, thing)


if __name__ == "__main__":
    unittest.main()
