"""The facts that points 136 to 148 of the document state of watched states, lumps and the desk."""

import unittest
from fractions import Fraction
from itertools import permutations

from lastingshares.aims import Mean, Ratio
from lastingshares.boxes import decided
from lastingshares.chains import Chain
from lastingshares.comings import chance
from lastingshares.compared import ratio_gap
from lastingshares.desks import Desk
from lastingshares.ends import ends_of, greatest
from lastingshares.errors import BadDeed, ChainError
from lastingshares.longs import long
from lastingshares.lumped import alike_table, is_alike, lot_row, lumped
from lastingshares.notes import worlds
from lastingshares.pushes import push
from lastingshares.shapes import is_hanging, only_tree
from lastingshares.sums import forest_row, forest_sum
from lastingshares.tables import Table
from lastingshares.timing import time_verdict
from lastingshares.trees import shares, tree_row
from lastingshares.trials import tried
from lastingshares.verdicts import ratio_verdict, share_verdict
from lastingshares.walks import gates, is_gate, walks
from lastingshares.watched import left_out, places_in, time_in, watched
from book import wide_notes
from support import CHAINS, MIXED, NOTES, SHAPES, all_lots, of_mask, several_rates, slow_trees, slow_watched_arrows

TABLES = [table for table in MIXED[::2] if table.size > 2] + CHAINS[20::7]
FEW = SHAPES[3:19] + SHAPES[19:80:5] + SHAPES[80::9]


def watched_sets(size, least=2):
    return [states for states in all_lots(size) + [list(range(size))] if len(states) >= least]


def power(number, exponent):
    return number ** exponent if exponent else 1


def each_watched(chosen, least=2):
    """A table, a watched set, F_S, the watched table and the number in it of each watched state."""
    for table in chosen:
        for states in watched_sets(table.size, least):
            yield table, states, forest_sum(table, states), watched(table, states), {
                x: places_in(states, x) for x in states}


class Watched(unittest.TestCase):
    def test_points_136_and_137(self):
        for table, states, total, seen, place in each_watched(TABLES):
            s = len(states)
            self.assertTrue(s < table.size or seen == table)
            for many in range(1, s + 1):
                roots = states[:many]
                for some in (roots, states[-many:]):
                    factor = power(total, s - many - 1) if many < s else 0
                    inner = [place[x] for x in some]
                    self.assertEqual(forest_sum(seen, inner), forest_sum(table, some) * factor if many < s else 1)
                    if many < s:
                        row = forest_row(table, some[0], some)
                        found = forest_row(seen, inner[0], inner)
                        self.assertEqual([found[place[x]] for x in states], [row[x] * factor for x in states])
            sums = tree_row(table)
            self.assertEqual([tree_row(seen)[place[x]] for x in states],
                             [sums[x] * power(total, s - 2) for x in states])

    def test_point_137_shares_and_chances(self):
        for chain, states, _, seen, place in each_watched(CHAINS[20::9]):
            for c, e in permutations(states, 2):
                self.assertEqual(tree_row(seen)[place[c]] * tree_row(chain)[e],
                                 tree_row(seen)[place[e]] * tree_row(chain)[c])
                for x in states:
                    self.assertEqual(chance(seen, place[x], place[c], place[e]), chance(chain, x, c, e))

    def test_point_138(self):
        for table, states, total, seen, place in each_watched(TABLES, 3):
            for a, b in permutations(states, 2):
                for c, e in list(permutations(states, 2))[::2]:
                    number = push(table, a, b, c, e)
                    self.assertEqual(push(seen, place[a], place[b], place[c], place[e]),
                                     number * power(total, len(states) - 3))
                    if len(states) == 4 == len({a, b, c, e}):
                        rows = seen.rows
                        self.assertEqual(number * total, rows[place[b]][place[c]] * rows[place[a]][place[e]]
                                         - rows[place[b]][place[e]] * rows[place[a]][place[c]])

    def test_point_139(self):
        for table, states, total, seen, place in each_watched(TABLES[::2]):
            rows = [[rate + (x + 2 * y) % 3 * (x in states and x != y) for y, rate in enumerate(row)]
                    for x, row in enumerate(table.rows)]
            other = Table(rows)
            self.assertEqual(forest_sum(other, states), total)
            for c, e in permutations(states, 2):
                self.assertEqual(ratio_gap(seen, watched(other, states), place[c], place[e]),
                                 ratio_gap(table, other, c, e) * power(total, 2 * (len(states) - 2)))

    def test_point_140(self):
        for table, states, total, seen, place in each_watched(TABLES):
            for x, c in [(x, c) for x in states for c in states]:
                self.assertEqual(total * long(seen, place[x], place[c]),
                                 time_in(table, states, x, c) * power(total, len(states) - 2))
            if len(states) == table.size:
                self.assertEqual([time_in(table, states, x, 0) for x in range(table.size)],
                                 [long(table, x, 0) for x in range(table.size)])

    def test_point_141(self):
        for table, states, _, seen, place in each_watched(TABLES, 3):
            total = forest_sum(table, states)
            for inner in all_lots(len(states)):
                if len(inner) >= 2:
                    factor = power(total, len(states) - len(inner))
                    once = watched(table, [states[i] for i in inner])
                    self.assertEqual(watched(seen, inner).rows,
                                     tuple(tuple(rate * factor for rate in row) for row in once.rows))
        for chain in [chain for chain in CHAINS[::3] if chain.size > 3]:
            for z, y in permutations(range(chain.size), 2):
                one = left_out(left_out(chain, z), y - (y > z))
                other = left_out(left_out(chain, y), z - (z > y))
                self.assertEqual(one.arrows(), other.arrows())
                self.assertEqual(len({Fraction(one[pair], other[pair]) for pair in one}), 1)

    def test_point_142(self):
        for chain, states, _, seen, place in each_watched(FEW, 2):
            self.assertIs(type(seen), Chain)
            self.assertEqual([(states[i], states[j]) for i, j in seen], slow_watched_arrows(chain, states))
            for a, b in permutations(states, 2):
                for c, e in list(permutations(states, 2))[::3]:
                    word = ratio_verdict(seen, place[a], place[b], place[c], place[e])
                    own = ratio_verdict(chain, a, b, c, e)
                    self.assertTrue(word == own or word == "mixed")
        chain = Chain.of_arrows(5, [(0, 4), (1, 4), (4, 2), (4, 3), (2, 0), (3, 1)])
        self.assertEqual(ratio_verdict(chain, 0, 1, 2, 3), "still")
        self.assertEqual(ratio_verdict(watched(chain, [0, 1, 2, 3]), 0, 1, 2, 3), "mixed")

    def test_point_143(self):
        for chain, states, _, seen, place in each_watched(FEW, 2):
            for a, b in permutations(states, 2):
                for c in states:
                    self.assertIs(is_gate(chain, a, b, c), is_gate(seen, place[a], place[b], place[c]))
                    word = share_verdict(chain, a, b, c)
                    self.assertEqual(share_verdict(seen, place[a], place[b], place[c]), word)
                    for x in states[::2]:
                        self.assertEqual(time_verdict(seen, place[a], place[b], place[x], place[c]),
                                         time_verdict(chain, a, b, x, c))
                    if len(states) == 3 == len({a, b, c}):
                        self.assertIs(word == "lifts", seen[place[a], place[c]] == 0)
                        self.assertIs(word == "lowers", seen[place[b], place[c]] == 0)
        star = Chain([[0, 1, 1, 1], [1, 0, 0, 0], [1, 0, 0, 0], [1, 0, 0, 0]])
        self.assertTrue(is_hanging(star))
        self.assertEqual([len(slow_trees(watched(star, [1, 2, 3]), c)) for c in range(3)], [3, 3, 3])
        self.assertIsNone(only_tree(watched(star, [1, 2, 3]), 0))

    def test_point_144(self):
        for notes in [notes for notes in NOTES[::2] if notes.size > 2]:
            for states in watched_sets(notes.size, 3):
                for c, e in permutations(states, 2):
                    world = greatest(notes, Ratio(c, e))
                    seen = watched(world, states)
                    for a, b in notes:
                        if a in states and b in states:
                            number = push(seen, *[places_in(states, x) for x in (a, b, c, e)])
                            self.assertTrue(world[a, b] == notes.highs[a, b] or number <= 0)
                            self.assertTrue(world[a, b] == notes.lows[a, b] or number >= 0)

    def test_point_145(self):
        many = 0
        for table in TABLES + [of_mask(4, mask) for mask in range(0, 4096, 97)]:
            states = list(range(table.size))
            for lots in ([states[:1], states[1:]], [states[::2], states[1::2]], [[x] for x in states[::-1]], [states],
                         [states[2:], states[:2]]):
                rows, sums = lumped(table, lots), lot_row(table, lots)
                self.assertEqual([sum(row) for row in rows], [sum(row[i] for row in rows) for i in range(len(lots))])
                self.assertEqual(sums, tuple(sum(tree_row(table)[x] for x in lump) for lump in lots))
                found = alike_table(table, lots)
                self.assertIs(found is None, not is_alike(table, lots) or len(lots) == 1)
                if found is not None:
                    alike = tree_row(found)
                    for i, j in permutations(range(len(lots)), 2):
                        self.assertEqual(alike[i] * sums[j], alike[j] * sums[i])
                    many += len(lots) < table.size
        self.assertGreater(many, 5)


class Desks(unittest.TestCase):
    def test_point_146(self):
        for notes in wide_notes():
            desk = Desk(notes.lows, notes=notes, watch=(0, 1))
            deeds = [("weigh", 0, 1, notes.highs[0, 1]), ("speed", 1, 1), ("turn",),
                     ("narrow", 1, 0, *notes.stretch(0, 1)), ("ask", 1, 0), ("settle", Ratio(1, 0)), ("watch", []),
                     ("forget",)]
            states = []
            for name, *args in deeds:
                states.append((desk.chain, desk.notes, desk.watched_states, list(desk)))
                getattr(desk, name)(*args)
                self.assertTrue(desk.notes is None or desk.notes.agrees(desk.chain))
            self.assertEqual(list(desk), [deed[0] for deed in deeds])
            while states:
                desk.undo()
                self.assertEqual((desk.chain, desk.notes, desk.watched_states, list(desk)), states.pop())

    def test_point_146_a_refused_deed_changes_nothing(self):
        notes = wide_notes()[1]
        desk = Desk(notes.lows, notes=notes, watch=(0, 1))
        desk.turn()
        before = (desk.chain, desk.notes, desk.watched_states, list(desk))
        for name, *args in (("weigh", 0, 1, 99), ("weigh", 0, 0, 1), ("speed", 0, 9), ("narrow", 0, 1, 0, 99),
                            ("ask", 3, 0), ("settle", Ratio(0, 3)), ("watch", [1])):
            with self.assertRaises(ChainError):
                getattr(desk, name)(*args)
            self.assertEqual((desk.chain, desk.notes, desk.watched_states, list(desk)), before)

    def test_point_147(self):
        desk = Desk(wide_notes()[1].lows, notes=wide_notes()[1])
        names = {"weigh": 3, "speed": 2, "ask": 2, "narrow": 4, "settle": 1, "watch": 1, "turn": 0, "forget": 0}
        for name in names:
            for many in range(6):
                if many != names[name]:
                    with self.assertRaises(BadDeed) as caught:
                        tried(desk, [("turn",), [name] + [0] * many])
                    self.assertEqual(caught.exception.place, 1)
        # The arguments themselves are checked when the deed is done.
        with self.assertRaises(ChainError) as caught:
            tried(desk, [("turn",), ["watch", [0]]])
        self.assertNotIsInstance(caught.exception, BadDeed)

    def test_point_148_turns_and_speeds(self):
        for chain in FEW:
            desk = Desk(chain)
            before = {pair: gates(chain, *pair) for pair in chain.pairs_of(chain.size)}
            desk.turn()
            for x, y in before:
                self.assertEqual(gates(desk.chain, y, x), before[x, y][::-1])
                self.assertEqual(sorted(walk[::-1] for walk in walks(desk.chain, y, x)), walks(chain, x, y))
            self.assertEqual(desk.turn(), chain)
            for x in range(chain.size):
                found = desk.what_if([("speed", x, 3)], tree_row)
                self.assertEqual(found, tuple(t if y == x else 3 * t for y, t in enumerate(tree_row(chain))))
            other = several_rates(chain, 3)[2]
            for a, b in chain.pairs_of(chain.size)[::3]:
                words = desk.verdicts(a, b)
                deeds = [("speed", 0, 5)] + [("weigh", x, y, other[x, y]) for x, y in chain]
                self.assertEqual(desk.what_if(deeds, lambda found: Desk(found).verdicts(a, b)), words)

    def test_point_148_notes(self):
        for notes in NOTES[::3]:
            for aim in (Ratio(0, 1), Mean([3, -1, 4, -1, 5][:notes.size])):
                low, high = (Fraction(*one) for one in ends_of(notes, aim))
                up, down, free = decided(notes, aim)
                for world in worlds(notes)[::5]:
                    desk = Desk(world, notes=notes)
                    for x, y in notes:
                        desk.ask(x, y)
                        ends = desk.ends(aim)
                        self.assertTrue(low <= Fraction(*ends[0]) <= Fraction(*ends[1]) <= high)
                        kept = (x, y) in free or world[x, y] == notes.stretch(x, y)[(x, y) in up]
                        self.assertIs(ends[1] == ends_of(notes, aim)[1], kept)
                        desk.undo()
                    desk.settle(aim)
                    self.assertEqual(desk.ends(aim)[1], aim(desk.chain))
                    self.assertEqual(desk.shares(), shares(greatest(notes, aim)))


if __name__ == "__main__":
    unittest.main()
