"""lastingshares.desks: desks, their deeds, taking back, and what if, beside a book of deeds that the tests keep."""

import unittest

from lastingshares.aims import Mean, Ratio
from lastingshares.chains import Chain
from lastingshares.desks import Desk
from lastingshares.ends import ends_of, greatest
from lastingshares.errors import (BadDeed, BadNumber, BadRow, BadSet, BadState, NoDeed, NotAgreeing, NotJoined,
                                  OtherSize, SameState)
from lastingshares.notes import Notes
from lastingshares.texts import table_text
from lastingshares.trees import shares, tree_row
from lastingshares.watched import watched
from book import WRONG_DEEDS, Book, Draws, check_beside, desks_to_make, drawn_deed, outcome, state_of, wide_notes
from support import (check_aims_named, check_error, check_sets_named, check_states_named, complete, slow_share_word,
                     slow_trees_of)

CHAIN = Chain([[0, 2, 0], [1, 0, 1], [3, 0, 0]])
NOTES = Notes([[0, 2, 0], [1, 0, 1], [2, 0, 0]], [[0, 2, 3], [1, 0, 5], [4, 1, 0]])


class Making(unittest.TestCase):
    def test_each_desk(self):
        for chain, notes, watch in desks_to_make():
            kept = list(watch)
            desk = Desk(chain, notes=notes, watch=watch)
            check_beside(self, desk, Book(chain, notes, watch))
            self.assertEqual((desk.chain, desk.notes, list(watch)), (chain, notes, kept))

    def test_notes_and_watched_states_may_be_left_out(self):
        desk = Desk(CHAIN)
        self.assertEqual((desk.chain, desk.notes, desk.watched_states, desk.many, list(desk)), (CHAIN, None, (), 0, []))
        states = [2, 0]
        desk = Desk(CHAIN, watch=states)
        states.append(1)
        self.assertEqual(desk.watched_states, (0, 2))

    def test_watched_states_are_not_assigned(self):
        for desk in (Desk(CHAIN), Desk(CHAIN, notes=NOTES, watch=(1, 2))):
            before = state_of(desk)
            for thing in ((0, 1), None, desk.watched_states):
                with self.assertRaises(BadDeed) as caught:
                    desk.watched_states = thing
                self.assertEqual(caught.exception.place, -1)
                self.assertEqual(state_of(desk), before)

    def test_errors(self):
        for watch in ((), (0, 1), None, [True]):
            for size in (2, 4, 8):
                check_error(self, OtherSize(size), Desk, CHAIN, notes=Notes.of_world(complete(size)), watch=watch)
            check_error(self, NotAgreeing(1, 0), Desk, Chain([[0, 2, 0], [2, 0, 7], [3, 0, 0]]), notes=NOTES,
                        watch=watch)
            check_error(self, NotAgreeing(1, 2), Desk, CHAIN.with_rate(1, 2, 6), notes=NOTES, watch=watch)
        for notes in (None, NOTES):
            check_sets_named(self, lambda watch, notes=notes: Desk(CHAIN, notes=notes, watch=watch), least=0)
            for watch in ([0], (2,)):
                check_error(self, BadSet(-2), Desk, CHAIN, notes=notes, watch=watch)


class Deeds(unittest.TestCase):
    def test_drawn_deeds_beside_a_book(self):
        kinds = {}
        for seed, (chain, notes, watch) in enumerate(desks_to_make()):
            desk, book, draws = Desk(chain, notes=notes, watch=watch), Book(chain, notes, watch), Draws(seed)
            for _ in range(40):
                if draws.below(4) == 0:
                    expected, found = outcome(book.undo), outcome(desk.undo)
                    self.assertEqual(found, expected)
                    kinds[("undo", expected and expected[0])] = True
                else:
                    deed = drawn_deed(draws, desk)
                    expected, found = outcome(book.do, *deed), outcome(self.do, desk, deed)
                    self.assertEqual(found, expected)
                    kinds[(deed[0], expected and expected[0])] = True
                check_beside(self, desk, book)
        names = ["weigh", "speed", "turn", "narrow", "ask", "forget", "settle", "watch", "undo"]
        self.assertEqual([name for name in names if (name, None) not in kinds], [])
        for kind in [("weigh", NotJoined), ("weigh", NotAgreeing), ("weigh", BadNumber), ("weigh", BadState),
                     ("weigh", SameState), ("speed", NotAgreeing), ("speed", BadNumber), ("narrow", BadDeed),
                     ("narrow", BadNumber), ("narrow", NotAgreeing), ("ask", BadDeed), ("ask", SameState),
                     ("settle", BadDeed), ("settle", BadState), ("settle", BadRow), ("watch", BadSet),
                     ("undo", NoDeed)]:
            self.assertIn(kind, kinds)

    def do(self, desk, deed):
        """Does the deed by its method, and looks at what this returns."""
        name, *args = deed
        found = getattr(desk, name)(*args)
        self.assertEqual(found, desk.watched_states if name == "watch" else desk.chain)
        self.assertEqual(list(desk)[-1], name)

    def test_a_deed_is_added_also_if_nothing_changes_by_it(self):
        desk = Desk(CHAIN, notes=NOTES, watch=(0, 2))
        before = state_of(desk)[:4]
        self.assertEqual(desk.weigh(0, 1, 2), CHAIN)
        self.assertEqual(desk.speed(1, 1), CHAIN)
        self.assertEqual(desk.narrow(1, 2, 1, 5), CHAIN)
        self.assertEqual(desk.watch([2, 0]), (0, 2))
        self.assertEqual((state_of(desk)[:4], list(desk)), (before, ["weigh", "speed", "narrow", "watch"]))
        self.assertEqual((desk.forget(), desk.notes, desk.forget(), desk.notes), (CHAIN, None, CHAIN, None))
        self.assertEqual((desk.many, len(desk), list(desk)[-2:]), (6, 6, ["forget", "forget"]))

    def test_turning_turns_the_notes_too(self):
        desk = Desk(CHAIN, notes=NOTES, watch=(0, 2))
        self.assertEqual(desk.turn(), ~CHAIN)
        self.assertEqual((desk.chain.rows, desk.watched_states), (((0, 1, 3), (2, 0, 0), (0, 1, 0)), (0, 2)))
        for x, y in CHAIN.pairs_of(3):
            self.assertEqual(desk.notes.stretch(x, y), NOTES.stretch(y, x))
        self.assertEqual((desk.turn(), desk.notes, list(desk)), (CHAIN, NOTES, ["turn", "turn"]))
        self.assertEqual((NOTES.lows.rows[2], NOTES.highs.rows[2]), ((2, 0, 0), (4, 1, 0)))

    def test_taking_back(self):
        desk = Desk(CHAIN, notes=NOTES, watch=(0, 2))
        for _ in range(2):
            before = state_of(desk)
            desk.watch([])
            desk.ask(1, 2)
            desk.settle(Ratio(0, 1))
            desk.forget()
            desk.weigh(0, 2, 77)
            self.assertEqual((desk.undo()[0, 2], desk.notes, desk.many), (0, None, 4))
            self.assertEqual((desk.undo()[0, 2], desk.notes == NOTES.ask(1, 2, 1), desk.many), (0, True, 3))
            self.assertEqual(desk.undo(), CHAIN)
            desk.undo()
            self.assertEqual((desk.notes, desk.watched_states), (NOTES, ()))
            desk.undo()
            self.assertEqual(state_of(desk), before)
            check_error(self, NoDeed(), desk.undo)
            self.assertEqual(state_of(desk), before)

    def test_a_hundred_deeds(self):
        desk = Desk(complete(8), watch=tuple(range(8)))
        before = state_of(desk)
        for turn in range(25):
            desk.weigh(turn % 8, (turn + 1) % 8, turn)
            desk.speed(turn % 7, 2)
            desk.turn()
            desk.watch([turn % 8, (turn + 3) % 8])
        self.assertEqual((desk.many, list(desk)), (100, ["weigh", "speed", "turn", "watch"] * 25))
        for _ in range(100):
            desk.undo()
        self.assertEqual(state_of(desk), before)

    def test_errors_of_states_and_numbers(self):
        for desk in (Desk(CHAIN), Desk(CHAIN, notes=NOTES)):
            for rate in (5, -1):
                check_states_named(self, lambda table, *args: desk.weigh(*args), CHAIN, (0, 1, rate), same=((0, 1),),
                                   at=(0, 1))
            check_states_named(self, lambda table, *args: desk.speed(*args), CHAIN, (0, 0), at=(0,))
            for thing in (True, False, None, -1, "1", 1.0):
                check_error(self, BadNumber("rate"), desk.weigh, 0, 1, thing)
                check_error(self, BadNumber("number"), desk.speed, 0, thing)
            check_error(self, BadNumber("number"), desk.speed, 0, 0)
            # A chain that is not joined comes before notes that do not agree.
            check_error(self, NotJoined((0,)), desk.weigh, 0, 1, 0)
            check_error(self, NotJoined((0, 1)), desk.weigh, 1, 2, 0)
            check_sets_named(self, desk.watch, least=0)
            check_error(self, BadSet(-2), desk.watch, (1,))
            self.assertEqual((desk.many, desk.chain), (0, CHAIN))

    def test_errors_of_notes(self):
        desk = Desk(CHAIN, notes=NOTES)
        check_error(self, NotAgreeing(0, 1), desk.weigh, 0, 1, 3)
        check_error(self, NotAgreeing(2, 1), desk.weigh, 2, 1, 2)
        check_error(self, NotAgreeing(1, 0), desk.speed, 1, 2)
        check_error(self, NotAgreeing(2, 0), desk.speed, 2, 2)
        check_states_named(self, lambda table, *args: desk.narrow(*args), CHAIN, (0, 1, -5, True), same=((0, 1),),
                           at=(0, 1))
        check_states_named(self, lambda table, *args: desk.ask(*args), CHAIN, (0, 1), same=((0, 1),))
        for thing in (True, None, "2", 1, 0, -1):
            check_error(self, BadNumber("low"), desk.narrow, 2, 0, thing, 9)
        for thing in (True, None, "4", 5, 1):
            check_error(self, BadNumber("high"), desk.narrow, 2, 0, 2, thing)
        check_error(self, NotAgreeing(2, 0), desk.narrow, 2, 0, 4, 4)
        check_error(self, NotAgreeing(2, 0), desk.narrow, 2, 0, 2, 2)
        self.assertEqual((desk.narrow(2, 0, 3, 3), desk.notes), (CHAIN, NOTES.ask(2, 0, 3)))
        check_aims_named(self, desk.settle)
        check_aims_named(self, desk.ends)
        self.assertEqual(list(desk), ["narrow"])

    def test_without_notes(self):
        desk = Desk(CHAIN)
        for x, y in ((0, 1), (1, 1), (True, 9)):
            check_error(self, BadDeed(-2), desk.narrow, x, y, None, -1)
            check_error(self, BadDeed(-2), desk.ask, x, y)
        for aim in (Ratio(0, 1), Ratio(5, 5), Mean(None)):
            check_error(self, BadDeed(-2), desk.settle, aim)
            check_error(self, BadDeed(-2), desk.ends, aim)
        self.assertEqual((desk.many, desk.chain), (0, CHAIN))
        desk = Desk(CHAIN, notes=NOTES)
        desk.forget()
        check_error(self, BadDeed(-2), desk.ask, 0, 1)


class Questions(unittest.TestCase):
    def test_what_a_desk_shows(self):
        for chain, notes, watch in desks_to_make():
            desk = Desk(chain, notes=notes, watch=watch)
            sums = slow_trees_of(chain)
            self.assertEqual(desk.shares(), shares(chain))
            self.assertEqual([share[0] * sum(sums) for share in desk.shares()],
                             [share[1] * number for share, number in zip(desk.shares(), sums)])
            for a, b in chain.pairs_of(chain.size):
                self.assertEqual(desk.verdicts(a, b),
                                 tuple(slow_share_word(chain, a, b, c) for c in range(chain.size)))
            seen = desk.seen_alone()
            self.assertEqual((type(seen), seen), (Chain, watched(chain, watch or list(range(chain.size)))))
            unseen = "none" if notes is None else len(notes.unseen())
            self.assertEqual(desk.words(), f"{table_text(chain)}\ndeeds 0\nunseen {unseen}")
            if notes is not None:
                for aim in (Ratio(0, 1), Mean(list(range(chain.size)))):
                    self.assertEqual(desk.ends(aim), ends_of(notes, aim))
            self.assertEqual((desk.many, desk.chain), (0, chain))

    def test_words_follow_the_deeds(self):
        desk = Desk(CHAIN, notes=NOTES)
        self.assertEqual(desk.words(), "states 3\n0 1 2\n1 0 1\n1 2 1\n2 0 3\ndeeds 0\nunseen 4")
        desk.ask(1, 2)
        desk.turn()
        self.assertEqual(desk.words(), "states 3\n0 1 1\n0 2 3\n1 0 2\n2 1 1\ndeeds 2\nunseen 3")
        desk.forget()
        self.assertEqual(desk.words(), "states 3\n0 1 1\n0 2 3\n1 0 2\n2 1 1\ndeeds 3\nunseen none")
        seen = Desk(complete(2), notes=Notes.of_world(complete(2)))
        self.assertEqual(seen.words(), "states 2\n0 1 1\n1 0 1\ndeeds 0\nunseen 0")

    def test_settling(self):
        for notes in wide_notes():
            for aim in (Ratio(0, 1), Mean(list(range(notes.size)))):
                desk = Desk(notes.lows, notes=notes)
                self.assertEqual(desk.settle(aim), greatest(notes, aim))
                self.assertEqual((desk.notes, desk.ends(aim)[1]), (notes, aim(desk.chain)))

    def test_errors(self):
        for desk in (Desk(CHAIN), Desk(CHAIN, notes=NOTES)):
            check_states_named(self, lambda table, *args: desk.verdicts(*args), CHAIN, (0, 1), same=((0, 1),))

    def test_iteration(self):
        desk = Desk(CHAIN)
        desk.turn()
        desk.speed(0, 3)
        names = list(desk)
        names.append("changed")
        self.assertEqual((list(desk), [name for name in desk], "turn" in list(desk)),
                         (["turn", "speed"], ["turn", "speed"], True))


class WhatIf(unittest.TestCase):
    def test_drawn_deed_lists_beside_a_book(self):
        kinds = set()
        for seed, (chain, notes, watch) in enumerate(desks_to_make()):
            desk, draws = Desk(chain, notes=notes, watch=watch), Draws(seed + 500)
            for turn in range(6):
                deeds, book = self.drawn_deeds(draws, desk, turn)
                before = state_of(desk)
                error = self.first_error(book, deeds)
                asked = []

                def question(chain, *rest):
                    asked.append((chain, rest, state_of(desk)))
                    return ["told", rest]

                found = outcome(desk.what_if, deeds, question, 5, "x")
                self.assertEqual((found, state_of(desk)), (error, before))
                kinds.add(error is None)
                if error is None:
                    told, rest, state = asked[0]
                    self.assertEqual((told, rest, len(asked)), (Chain(book.rows), (5, "x"), 1))
                    self.assertEqual(state, book.state())
                    self.assertEqual(desk.what_if(tuple(deeds), question, 7), ["told", (7,)])
                else:
                    self.assertEqual(asked, [])
                self.assertEqual(state_of(desk), before)
                outcome(self.do_first, desk, deeds)
        self.assertEqual(kinds, {True, False})

    def drawn_deeds(self, draws, desk, turn):
        """A list of deeds, of which some may be refused, and a book of the desk before them."""
        deeds = [drawn_deed(draws, desk) for _ in range(turn)]
        book = Book(desk.chain, desk.notes, desk.watched_states)
        book.names = list(desk)
        return deeds, book

    def first_error(self, book, deeds):
        for deed in deeds:
            error = outcome(book.do, *deed)
            if error is not None:
                return error
        return None

    def do_first(self, desk, deeds):
        if deeds:
            getattr(desk, deeds[0][0])(*deeds[0][1:])

    def test_edges(self):
        desk = Desk(CHAIN, watch=(2, 0))
        desk.weigh(0, 1, 4)
        self.assertEqual(desk.what_if([("turn",)], tree_row), (4, 4, 12))
        self.assertEqual(desk.what_if([], tree_row), tree_row(desk.chain))
        self.assertEqual(desk.what_if((), lambda chain: None), None)
        self.assertEqual(desk.what_if([["watch", [0, 1, 2]]], lambda chain, one: (one, desk.watched_states), 9),
                         (9, (0, 1, 2)))
        self.assertEqual(desk.what_if([], Mean([1, 0, 0])), Mean([1, 0, 0])(desk.chain))
        self.assertEqual((list(desk), desk.watched_states), (["weigh"], (0, 2)))

    def test_the_question_may_do_and_take_back_deeds(self):
        desk = Desk(CHAIN, notes=NOTES, watch=(0, 1))
        desk.ask(1, 2)
        desk.turn()
        before = state_of(desk)

        def question(chain):
            while desk.many:
                desk.undo()
            desk.forget()
            desk.weigh(0, 2, 99)
            desk.watch(())
            inner = desk.what_if([("turn",), ("speed", 0, 5)], lambda chain: desk.many)
            return (chain, inner, desk.many)

        self.assertEqual(desk.what_if([("turn",)], question), (CHAIN, 5, 3))
        self.assertEqual(state_of(desk), before)
        self.assertEqual((desk.undo(), desk.undo()), (CHAIN, CHAIN))
        self.assertEqual((desk.notes, desk.many), (NOTES, 0))

    def test_errors_go_on(self):
        desk = Desk(CHAIN, notes=NOTES)
        desk.ask(1, 2)
        before = state_of(desk)

        def question(chain):
            desk.undo()
            desk.undo()
            raise KeyError("gone")

        with self.assertRaises(KeyError):
            desk.what_if([("turn",)], question)
        self.assertEqual(state_of(desk), before)
        check_error(self, NotAgreeing(0, 1), desk.what_if, [("turn",), ("turn",), ("weigh", 0, 1, 9)], tree_row)
        check_error(self, NoDeed(), desk.what_if, [("turn",)], lambda chain: [desk.undo() for _ in range(3)])
        self.assertEqual(state_of(desk), before)

    def test_wrong_deed_lists(self):
        desk = Desk(CHAIN, notes=NOTES)
        desk.turn()
        before = state_of(desk)

        def question(chain):
            self.fail("no question is asked")

        for thing in (None, 5, "turn", {"turn": 1}, {("turn",)}, range(2), {}):
            check_error(self, BadDeed(-1), desk.what_if, thing, question)
        for thing in WRONG_DEEDS:
            check_error(self, BadDeed(0), desk.what_if, [thing], question)
            # It is found before any deed is done, also before one that would raise an error.
            check_error(self, BadDeed(2), desk.what_if, (("forget",), ["ask", 7, 7], thing, None), question)
        check_error(self, BadState(0), desk.what_if, (("forget",), ["weigh", 7, 7, 0]), question)
        check_error(self, BadDeed(-2), desk.what_if, (("forget",), ["ask", 7, 7]), question)
        self.assertEqual(state_of(desk), before)


if __name__ == "__main__":
    unittest.main()
