"""lastingshares.trials: trials of deeds, and deed lists that are tried and taken back."""

import unittest

from lastingshares.aims import Ratio
from lastingshares.chains import Chain
from lastingshares.desks import Desk
from lastingshares.errors import BadDeed, NoDeed, NotAgreeing
from lastingshares.notes import Notes
from lastingshares.trials import Trial, tried
from book import WRONG_DEEDS, Book, Draws, desks_to_make, drawn_deed, outcome, state_of
from support import check_error

CHAIN = Chain([[0, 2, 0], [1, 0, 1], [3, 0, 0]])
NOTES = Notes([[0, 2, 0], [1, 0, 1], [2, 0, 0]], [[0, 2, 3], [1, 0, 5], [4, 1, 0]])


class Trials(unittest.TestCase):
    def test_the_desk_is_as_it_was(self):
        for seed, (chain, notes, watch) in enumerate(desks_to_make()):
            desk, draws = Desk(chain, notes=notes, watch=watch), Draws(seed + 900)
            trial = Trial(desk)
            self.assertIs(trial.desk, desk)
            for many in range(5):
                before = state_of(desk)
                with trial as held:
                    self.assertIs(held, desk)
                    self.assertEqual(state_of(desk), before)
                    for _ in range(3 * many):
                        deed = drawn_deed(draws, desk)
                        outcome(getattr(desk, deed[0]), *deed[1:])
                        if draws.below(2):
                            outcome(desk.undo)
                self.assertEqual(state_of(desk), before)
                deed = drawn_deed(draws, desk)
                outcome(getattr(desk, deed[0]), *deed[1:])
            while desk.many:
                desk.undo()
            self.assertEqual(state_of(desk), state_of(Desk(chain, notes=notes, watch=watch)))

    def test_older_deeds_may_be_taken_back(self):
        desk = Desk(CHAIN, notes=NOTES, watch=(0, 1))
        desk.ask(1, 2)
        desk.settle(Ratio(0, 1))
        desk.watch([1, 2])
        before = state_of(desk)
        with Trial(desk):
            for _ in range(3):
                desk.undo()
            check_error(self, NoDeed(), desk.undo)
            desk.forget()
        self.assertEqual(state_of(desk), before)
        desk.undo()
        desk.undo()
        self.assertEqual((desk.chain, desk.notes, desk.watched_states), (CHAIN, NOTES.ask(1, 2, 1), (0, 1)))
        desk.undo()
        self.assertEqual((desk.notes, desk.many), (NOTES, 0))

    def test_errors_go_on(self):
        desk = Desk(CHAIN, notes=NOTES)
        desk.turn()
        before = state_of(desk)
        for error in (KeyError("gone"), NotAgreeing(0, 1), ValueError()):
            with self.assertRaises(type(error)) as caught:
                with Trial(desk) as held:
                    held.undo()
                    held.forget()
                    raise error
            self.assertIs(caught.exception, error)
            self.assertEqual(state_of(desk), before)
        with self.assertRaises(NotAgreeing):
            with Trial(desk):
                desk.weigh(0, 1, 99)
        self.assertEqual(state_of(desk), before)

    def test_a_trial_is_used_twice_and_beside_others(self):
        desk, other = Desk(CHAIN), Desk(~CHAIN, watch=(0, 2))
        trial = Trial(desk)
        with trial:
            desk.turn()
        desk.speed(0, 7)
        with trial as held:
            held.undo()
            with Trial(other) as second:
                second.forget()
                held.weigh(0, 2, 5)
                with Trial(desk):
                    desk.undo()
                    desk.turn()
                self.assertEqual((list(desk), list(other)), (["weigh"], ["forget"]))
            self.assertEqual((list(desk), list(other)), (["weigh"], []))
        self.assertEqual((list(desk), desk.chain), (["speed"], CHAIN.times(0, 7)))
        self.assertEqual(desk.undo(), CHAIN)

    def test_inside_a_question(self):
        desk = Desk(CHAIN)

        def question(chain):
            with Trial(desk):
                desk.undo()
                desk.weigh(0, 2, 1)
            return list(desk)

        self.assertEqual(desk.what_if([("turn",)], question), ["turn"])
        self.assertEqual(list(desk), [])


class Tried(unittest.TestCase):
    def test_beside_a_book(self):
        kinds = set()
        for seed, (chain, notes, watch) in enumerate(desks_to_make()):
            desk, draws = Desk(chain, notes=notes, watch=watch), Draws(seed + 300)
            for many in range(6):
                deeds = [drawn_deed(draws, desk) for _ in range(many)]
                book = Book(desk.chain, desk.notes, desk.watched_states)
                before, found, error = state_of(desk), [], None
                for deed in deeds:
                    error = error or outcome(book.do, *deed)
                    found.append(book.rows)
                kinds.add(error is None)
                if error is None:
                    chains = tried(desk, deeds)
                    self.assertEqual((type(chains), [type(one) for one in chains]), (tuple, [Chain] * many))
                    self.assertEqual([[list(row) for row in one.rows] for one in chains], found)
                else:
                    self.assertEqual(outcome(tried, desk, tuple(deeds)), error)
                self.assertEqual(state_of(desk), before)
                if deeds:
                    outcome(getattr(desk, deeds[0][0]), *deeds[0][1:])
        self.assertEqual(kinds, {True, False})

    def test_edges(self):
        desk = Desk(CHAIN)
        first, second = tried(desk, [("speed", 2, 2), ("turn",)])
        self.assertEqual(first.rows, ((0, 2, 0), (1, 0, 1), (6, 0, 0)))
        self.assertEqual(second.rows, ((0, 1, 6), (2, 0, 0), (0, 1, 0)))
        self.assertEqual((tried(desk, []), tried(desk, ())), ((), ()))
        self.assertEqual(tried(desk, [["watch", (0, 2)], ("forget",)]), (CHAIN, CHAIN))
        self.assertEqual((list(desk), desk.watched_states), ([], ()))

    def test_wrong_deed_lists(self):
        desk = Desk(CHAIN, notes=NOTES)
        desk.turn()
        before = state_of(desk)
        for thing in (None, 5, "turn", {"turn": 1}, {("turn",)}, range(2), {}):
            check_error(self, BadDeed(-1), tried, desk, thing)
        for thing in WRONG_DEEDS:
            check_error(self, BadDeed(0), tried, desk, [thing])
            check_error(self, BadDeed(2), tried, desk, (("forget",), ["ask", 7, 7], thing, None))
        check_error(self, NotAgreeing(0, 2), tried, desk, [("turn",), ("weigh", 0, 2, 4)])
        self.assertEqual(state_of(desk), before)


if __name__ == "__main__":
    unittest.main()
