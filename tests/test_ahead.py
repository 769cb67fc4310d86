"""lastingshares.ahead: rules for all notes on a shape, clashes of mixed arrows, worlds of an only tree."""

import unittest
from fractions import Fraction

from lastingshares.ahead import clash, rule_for, tree_world
from lastingshares.aims import Aim, Cost, Mean, Ratio
from lastingshares.chains import Chain
from lastingshares.errors import BadNumber, BadState
from lastingshares.notes import Notes
from support import (NOTES, SHAPES, are_parted, check_aims_named, check_arrow_lists_named, check_error,
                     check_states_named, complete, shape_of, sign, slow_aim_push, slow_pair, slow_ratio_word,
                     slow_trees, slow_word, slow_worlds)

CHAIN = Chain([[0, 2, 0], [1, 0, 3], [4, 0, 0]])
MANY_MIXED = Chain.of_arrows(4, [(0, 1), (0, 2), (0, 3), (1, 2), (1, 3), (2, 0), (3, 0)])
FEW = SHAPES[:19] + SHAPES[19:80:6]
GREAT = Notes(Chain.around([1] * 8).rows, [[0 if x == y else 10 ** 12 - 9 * x - y for y in range(8)] for x in range(8)])


def aims_of(size):
    rows = [(1,) + (0,) * (size - 1), (5,) * size, (0, 1, 2, -1, 1)[:size], (3, -1, -1, 3, 3)[:size]]
    return [Ratio(0, size - 1), Ratio(size - 1, size // 2 - 1), *map(Mean, rows)]


def slow_aim_word(chain, aim, a, b):
    if isinstance(aim, Ratio):
        return slow_ratio_word(chain, a, b, aim.over, aim.under)
    rises = [aim.row[c] - aim.row[e] for c, e in chain.pairs_of(chain.size) if are_parted(chain, b, c, a, e)]
    return slow_word(any(rise > 0 for rise in rises), any(rise < 0 for rise in rises))


def each_case(chosen=FEW):
    """A chain, an aim, a list of some of the arrows, and their words."""
    for turn, chain in enumerate(chosen):
        for aim in aims_of(chain.size):
            words = {arrow: slow_aim_word(chain, aim, *arrow) for arrow in chain.arrows()}
            plain = [arrow for arrow in words if words[arrow] != "mixed"]
            for arrows in (chain.arrows(), chain.arrows()[turn % 3::2][::-1], plain):
                yield chain, aim, arrows, words


def is_shown(case, chain, aim, arrow, notes, wanted):
    """Fails if the notes are not on the chain's shape with the arrow alone unseen, or if it is decided otherwise."""
    case.assertIs(type(notes), Notes)
    case.assertEqual((shape_of(notes.lows), shape_of(notes.highs)), (shape_of(chain), shape_of(chain)))
    case.assertEqual(notes.unseen(), (arrow,))
    case.assertEqual(sign(slow_aim_push(aim, notes.lows, *arrow)), wanted)
    (low_u, low_v), (high_u, high_v) = slow_pair(aim, notes.lows), slow_pair(aim, notes.highs)
    case.assertEqual(sign(high_u * low_v - low_u * high_v), wanted)


class Rules(unittest.TestCase):
    def test_words_of_the_arrows(self):
        seen = set()
        for chain, aim, arrows, words in each_case():
            kept = list(arrows)
            found = rule_for(chain, aim, arrows)
            self.assertEqual(arrows, kept)
            mixed = any(words[arrow] == "mixed" for arrow in arrows)
            expected = None if mixed else tuple(sorted(arrow for arrow in arrows if words[arrow] == "lifts"))
            self.assertEqual(found, expected)
            self.assertEqual(rule_for(chain, aim, tuple(map(list, arrows))), expected)
            seen.add(mixed)
        self.assertEqual(seen, {True, False})

    def test_the_rule_holds_for_all_notes(self):
        for chain, aim, arrows, _ in list(each_case())[::3]:
            found = rule_for(chain, aim, arrows[:4])
            if found is None:
                continue
            for turn in range(2):
                lows = [[rate * (1 + (x + turn) % 3) for rate in row] for x, row in enumerate(chain.rows)]
                highs = [list(row) for row in lows]
                for a, b in arrows[:4]:
                    highs[a][b] += 1 + (a + b + turn) % 2
                notes = Notes(lows, highs)
                fractions = [Fraction(*slow_pair(aim, world)) for world in slow_worlds(notes)]
                self.assertEqual(Fraction(*slow_pair(aim, notes.world(found))), max(fractions))

    def test_edges(self):
        for aim in (Ratio(0, 2), Mean([1, 1, 5])):
            self.assertEqual((rule_for(CHAIN, aim, []), rule_for(CHAIN, aim, ())), ((), ()))
        # One tree leads to 1: 01 and 20 lift its share, 10 and 12 lower it.
        self.assertEqual(rule_for(CHAIN, Mean([0, 1, 0]), [(2, 0), (1, 2), (1, 0), (0, 1)]), ((0, 1), (2, 0)))
        self.assertEqual(rule_for(CHAIN, Mean([0, -1, 0]), [(2, 0), (1, 2), (1, 0), (0, 1)]), ((1, 0), (1, 2)))
        self.assertEqual(rule_for(CHAIN, Mean([4, 4, 4]), CHAIN.arrows()), ())
        self.assertIsNone(rule_for(MANY_MIXED, Ratio(2, 3), MANY_MIXED.arrows()))
        self.assertEqual(rule_for(MANY_MIXED, Ratio(2, 3), MANY_MIXED.arrows()[1:]), ((0, 2), (1, 2), (3, 0)))
        self.assertEqual(rule_for(complete(2), Ratio(1, 0), [(1, 0), (0, 1)]), ((0, 1),))
        ring = Chain.around([5] * 8)
        self.assertEqual(rule_for(ring, Ratio(3, 6), ring.arrows()), ((6, 7),))
        self.assertIsNone(rule_for(complete(8), Ratio(3, 6), complete(8).arrows()))
        self.assertEqual(rule_for(complete(8), Ratio(3, 6), [(6, 0), (5, 3), (3, 1)]), ((5, 3), (6, 0)))

    def test_errors(self):
        for call in (rule_for, clash):
            for pairs in ([(0, 1)], None):
                check_aims_named(self, lambda aim, call=call, pairs=pairs: call(CHAIN, aim, pairs))
                for aim in (Aim(), Cost([1, 2, 3], [[0] * 3] * 3)):
                    check_error(self, BadNumber("aim"), call, CHAIN, aim, pairs)
            for aim in (Ratio(0, 1), Mean([1, 2, 3])):
                check_arrow_lists_named(self, lambda pairs, call=call, aim=aim: call(CHAIN, aim, pairs))


class Clashes(unittest.TestCase):
    def test_the_least_mixed_arrow(self):
        seen = set()
        for chain, aim, arrows, words in list(each_case())[::2]:
            mixed = sorted(arrow for arrow in arrows if words[arrow] == "mixed")
            found = clash(chain, aim, arrows)
            seen.add(bool(mixed))
            if mixed:
                self.assertEqual((type(found), len(found), found[0]), (tuple, 3, mixed[0]))
                is_shown(self, chain, aim, mixed[0], found[1], 1)
                is_shown(self, chain, aim, mixed[0], found[2], -1)
            else:
                self.assertIsNone(found)
        self.assertEqual(seen, {True, False})

    def test_edges(self):
        for chain in (CHAIN, complete(8)):
            self.assertIsNone(clash(chain, Ratio(0, 1), []))
        self.assertIsNone(clash(CHAIN, Mean([0, 1, 0]), CHAIN.arrows()))
        arrow, first, second = clash(MANY_MIXED, Ratio(2, 3), [[3, 0], [0, 1]])
        self.assertEqual(arrow, (0, 1))
        is_shown(self, MANY_MIXED, Ratio(2, 3), arrow, first, 1)
        is_shown(self, MANY_MIXED, Ratio(2, 3), arrow, second, -1)
        for aim in (Ratio(3, 6), Mean([0, 0, 0, 1, 0, 0, 0, 0])):
            arrow, first, second = clash(complete(8), aim, complete(8).arrows())
            self.assertEqual(arrow, (0, 1))
            for notes, wanted in ((first, 1), (second, -1)):
                self.assertEqual((notes.unseen(), shape_of(notes.lows)), ((arrow,), shape_of(complete(8))))
                self.assertEqual(sign(aim.push_at(notes.lows, *arrow)), wanted)


class TreeWorlds(unittest.TestCase):
    def test_the_only_greatest_world(self):
        seen = set()
        for notes in NOTES:
            found = slow_worlds(notes)
            shape = notes.shape()
            for c in range(notes.size):
                trees = slow_trees(shape, c)
                world = tree_world(notes, c)
                seen.add(len(trees) == 1)
                if len(trees) != 1:
                    self.assertIsNone(world)
                    continue
                rows = [[(notes.highs if trees[0][x] == y else notes.lows).rows[x][y] for y in range(notes.size)]
                        for x in range(notes.size)]
                self.assertEqual((type(world), world), (Chain, Chain(rows)))
                aim = Mean([1 if x == c else 0 for x in range(notes.size)])
                fractions = [Fraction(*slow_pair(aim, one)) for one in found]
                best = [one for one, number in zip(found, fractions) if number == max(fractions)]
                self.assertEqual(best, [world])
        self.assertEqual(seen, {True, False})

    def test_edges(self):
        self.assertIsNone(tree_world(GREAT, 0))
        ring = Notes.around(Chain.around([3] * 8), 2, 4)
        self.assertEqual(tree_world(ring, 7), Chain.around([7] * 7 + [1]))
        seen = Notes.of_world(complete(2))
        self.assertEqual(tree_world(seen, 1), complete(2))
        self.assertIsNone(tree_world(Notes.of_world(complete(3)), 1))
        # A pair with a low of 0 counts as soon as its high is at least 1.
        notes = Notes(Chain.around([1, 1, 1]).rows, [[0, 1, 0], [0, 0, 1], [1, 1, 0]])
        self.assertEqual([tree_world(notes, c) is None for c in range(3)], [False, True, False])

    def test_errors(self):
        check_states_named(self, lambda table, c: tree_world(NOTES[1], c), NOTES[1].lows, (0,))
        check_error(self, BadState(0), tree_world, GREAT, 8)


if __name__ == "__main__":
    unittest.main()
