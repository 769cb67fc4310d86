"""The facts that points 97, 99 and 102 to 105 of the document state: rules ahead, at once from every state, between."""

import unittest
from fractions import Fraction

from lastingshares.ahead import clash, rule_for, tree_world
from lastingshares.aims import Mean, Ratio, of_scaled
from lastingshares.atonce import is_likeliest, is_soonest, latest, likeliest, soonest
from lastingshares.between import towards, world_at
from lastingshares.boxes import decided
from lastingshares.chains import Chain, is_joined
from lastingshares.comings import chance_row, coming_row
from lastingshares.ends import ends_of, greatest, is_greatest, is_least, least
from lastingshares.errors import BadState, NotAgreeing, OtherSize
from lastingshares.forests import forests, lead, trees
from lastingshares.longs import time_row
from lastingshares.means import mean_verdict
from lastingshares.notes import Notes, is_scaled, worlds
from lastingshares.pushes import push, share_push
from lastingshares.verdicts import ratio_verdict, share_verdict
from support import CHAINS, NOTES, SHAPES, aims_for, complete

FEW = NOTES[:2] + NOTES[2::3]
WIDE = Notes(Chain.around([1] * 8).rows, [[0 if x == y else 50 + x - 3 * y for y in range(8)] for x in range(8)])


def number_of(two):
    return Fraction(*two)


def unit(size, c):
    return Mean([1 if x == c else 0 for x in range(size)])


def is_at(notes, world, pair, push_at):
    """True if the pair is high for a push above 0, low for one below 0."""
    low, high = notes.stretch(*pair)
    return push_at == 0 or world[pair] == (high if push_at > 0 else low)


class AtOnce(unittest.TestCase):
    def test_point_97_such_worlds_exist(self):
        for notes in FEW:
            found = worlds(notes)[::3]
            for c in range(notes.size):
                quick, slow = time_row(soonest(notes, c), c), time_row(latest(notes, c), c)
                for world in found:
                    for low, number, high in zip(quick, time_row(world, c), slow):
                        self.assertTrue(number_of(low) <= number_of(number) <= number_of(high))
                for e in range(notes.size):
                    if e != c:
                        likely = chance_row(likeliest(notes, c, e), c, e)
                        for world in found:
                            for number, high in zip(chance_row(world, c, e), likely):
                                self.assertLessEqual(number_of(number), number_of(high))

    def test_point_97_by_pushes(self):
        for notes in FEW:
            for world in worlds(notes)[::5] + [soonest(notes, 0), latest(notes, 0), likeliest(notes, 0, 1)]:
                for c in range(notes.size):
                    pairs = [pair for pair in notes if pair[0] != c]
                    pushes = {pair: share_push(world, *pair, c) for pair in pairs}
                    self.assertIs(is_soonest(notes, world, c),
                                  all(is_at(notes, world, pair, pushes[pair]) for pair in pairs))
                    slowest = [time_row(latest(notes, c), c) == time_row(world, c)]
                    self.assertEqual(slowest, [all(is_at(notes, world, pair, -pushes[pair]) for pair in pairs)])
                    for e in range(notes.size):
                        if e != c:
                            ends = [is_at(notes, world, pair, push(world, *pair, c, e)) for pair in pairs
                                    if pair[0] != e]
                            self.assertIs(is_likeliest(notes, world, c, e), all(ends))

    def test_point_97_greatest_ratios(self):
        for notes in FEW:
            for world in worlds(notes)[::5] + [greatest(notes, Ratio(0, 1)), least(notes, Ratio(0, 1))]:
                for c, e in notes.lows.pairs_of(notes.size):
                    toward_c, toward_e = coming_row(world, c, e), coming_row(world, e, c)
                    out_c = [pair for pair in notes if pair[0] == c and toward_e[pair[1]] > 0]
                    out_e = [pair for pair in notes if pair[0] == e and toward_c[pair[1]] > 0]
                    for wanted, other, sign in ((is_greatest, (c, e), -1), (is_least, (e, c), 1)):
                        fits = all(is_at(notes, world, pair, sign) for pair in out_c)
                        fits = fits and all(is_at(notes, world, pair, -sign) for pair in out_e)
                        self.assertIs(wanted(notes, Ratio(c, e), world), fits and is_likeliest(notes, world, *other))

    def test_point_97_greatest_shares(self):
        for notes in FEW:
            for c in range(notes.size):
                out = [pair for pair in notes if pair[0] == c]
                for world in worlds(notes)[::3] + [soonest(notes, c), latest(notes, c)]:
                    low = all(is_at(notes, world, pair, -1) for pair in out)
                    self.assertIs(is_greatest(notes, unit(notes.size, c), world),
                                  is_soonest(notes, world, c) and low)
                    high = all(is_at(notes, world, pair, 1) for pair in out)
                    slow = time_row(world, c) == time_row(latest(notes, c), c)
                    self.assertIs(is_least(notes, unit(notes.size, c), world), slow and high)

    def test_point_98_both_shares(self):
        for notes in FEW:
            for c, e in notes.unseen():
                for world in worlds(notes)[::4] + [soonest(notes, c), soonest(notes, e)]:
                    self.assertFalse(is_greatest(notes, unit(notes.size, c), world)
                                     and is_greatest(notes, unit(notes.size, e), world))


class Fractions(unittest.TestCase):
    def test_point_99(self):
        for notes in FEW:
            for aim in aims_for(notes.size):
                low, high = map(number_of, ends_of(notes, aim))
                for step in range(-2, 13):
                    number = low + (high - low) * step / 10 if high > low else low + step
                    found = world_at(notes, aim, 3 * number.numerator, 3 * number.denominator)
                    self.assertIs(found is None, not low <= number <= high)
                    if found is not None:
                        self.assertTrue(is_scaled(notes, found))
                        self.assertEqual(number_of(of_scaled(aim, found)), number)

    def test_worlds_between_worlds_are_joined(self):
        for notes in NOTES + [WIDE]:
            for first, second in ((notes.lows, notes.highs), (notes.highs, notes.lows)):
                self.assertTrue(all(is_joined(world) and notes.agrees(world) for world in towards(first, second)))


class Rules(unittest.TestCase):
    def aims_of(self, size):
        return [Ratio(0, size - 1), Ratio(size - 1, size // 2 - 1), unit(size, 0), Mean([3, -1, 4, -1, 5][:size])]

    def test_point_102(self):
        for chain in SHAPES[::4]:
            for aim in self.aims_of(chain.size):
                words = {arrow: ratio_verdict(chain, *arrow, aim.over, aim.under) if isinstance(aim, Ratio)
                         else mean_verdict(chain, *arrow, aim.row) for arrow in chain.arrows()}
                plain = [arrow for arrow in words if words[arrow] != "mixed"]
                found = rule_for(chain, aim, plain)
                self.assertEqual(found, tuple(arrow for arrow in plain if words[arrow] == "lifts"))
                self.assertIs(rule_for(chain, aim, chain.arrows()) is None, "mixed" in words.values())
                for below, above in ((0, 3), (5, 1)):
                    wide = Notes.around(chain * 4, below, above)
                    highs = [[high if (x, y) in plain else wide.lows.rows[x][y] for y, high in enumerate(row)]
                             for x, row in enumerate(wide.highs.rows)]
                    notes = Notes(wide.lows.rows, highs)
                    self.assertTrue(is_greatest(notes, aim, notes.world(found)))
                for arrow in words:
                    shown = clash(chain, aim, [arrow])
                    self.assertIs(shown is None, words[arrow] != "mixed")
                    if shown is not None:
                        self.assertEqual([decided(notes, aim)[place] for place, notes in enumerate(shown[1:])],
                                         [(arrow,), (arrow,)])

    def test_point_103(self):
        for notes in NOTES:
            shape = notes.shape()
            for c in range(notes.size):
                world = tree_world(notes, c)
                self.assertIs(world is None, len(trees(shape, c)) != 1)
                if world is None:
                    words = [share_verdict(shape, *arrow, c) for arrow in shape.arrows()]
                    self.assertIn("mixed", words)
                    continue
                best = [one for one in worlds(notes) if is_greatest(notes, unit(notes.size, c), one)]
                self.assertEqual(best, [world])
                self.assertTrue(is_soonest(notes, world, c))
                for e in range(notes.size):
                    self.assertTrue(e == c or is_greatest(notes, Ratio(c, e), world))

    def test_point_104(self):
        for notes in NOTES[::2]:
            shape = notes.shape()
            for c, e in notes.lows.pairs_of(notes.size)[::2]:
                high, low, free = decided(notes, Ratio(c, e))
                found = list(forests(greatest(notes, Ratio(c, e)), (c, e)))
                for x, y in notes:
                    word = ratio_verdict(shape, x, y, c, e)
                    if word == "still":
                        self.assertEqual({push(world, x, y, c, e) for world in worlds(notes)[::3]}, {0})
                    if word == "lifts":
                        lifts = any(lead(forest, y) == c and lead(forest, x) == e for forest in found)
                        self.assertIn((x, y), high if lifts else free)
                    if word == "lowers":
                        self.assertIn((x, y), low + free)

    def test_point_105(self):
        notes = NOTES[1]
        for world, error in ((complete(4), OtherSize), (complete(3) * 9, NotAgreeing)):
            with self.assertRaises(error):
                is_soonest(notes, world, 0)
            with self.assertRaises(BadState):
                is_soonest(notes, world, 3)
        for world in (soonest(notes, 1), latest(notes, 1), likeliest(notes, 1, 2)):
            self.assertIs(type(world), Chain)
        self.assertTrue(all(type(world) is Chain for world in towards(CHAINS[5], CHAINS[5])))


if __name__ == "__main__":
    unittest.main()
