"""A book of deeds that the tests keep themselves, beside a desk: plain rows, and what each deed must do or refuse."""

from itertools import product

from lastingshares.aims import Cost, Mean, Ratio
from lastingshares.chains import Chain
from lastingshares.ends import greatest
from lastingshares.errors import (BadDeed, BadNumber, BadSet, BadState, ChainError, NoDeed, NotAgreeing, SameState)
from lastingshares.notes import Notes
from lastingshares.tables import Table
from support import complete

WRONG_DEEDS = [None, 5, "turn", {"turn": 1}, {"turn"}, [], (), [None], (3,), ("",), ("undo",), ("Turn",), (["turn"],),
               (("turn",),), ("weigh",), ("weigh", 0, 1), ("weigh", 0, 1, 2, 3), ("speed", 0), ("speed", 0, 1, 2),
               ("turn", 0), ("narrow", 0, 1, 2), ("narrow", 0, 1, 2, 3, 4), ("ask", 0), ("ask", 0, 1, 2),
               ("forget", None), ("settle",), ("settle", Ratio(0, 1), 1), ("watch",), ("watch", 0, 1), ("shares",),
               ("what_if", [], len), (True, 0, 1), (b"turn",)]


class Book:
    def __init__(self, chain, notes=None, watch=()):
        self.rows = [list(row) for row in chain.rows]
        self.lows = None if notes is None else [list(row) for row in notes.lows.rows]
        self.highs = None if notes is None else [list(row) for row in notes.highs.rows]
        self.seen = tuple(sorted(watch))
        self.names = []
        self.pages = []

    def state(self):
        return (self.rows, self.lows, self.highs, self.seen, self.names)

    def do(self, name, *args):
        """Does the deed, or raises the error that is due; what was before it is kept on a page."""
        page = self.state()
        change = vars(Book)["do_" + name]
        rows, lows, highs, seen = change(self, *args)
        self.pages.append(page)
        self.rows, self.lows, self.highs, self.seen = copied(rows), copied(lows), copied(highs), seen
        self.names = self.names + [name]

    def undo(self):
        if not self.pages:
            raise NoDeed()
        self.rows, self.lows, self.highs, self.seen, self.names = self.pages.pop()

    def check_states(self, *states):
        for place, state in enumerate(states):
            if type(state) is not int or not 0 <= state < len(self.rows):
                raise BadState(place)
        if len(states) == 2 and states[0] == states[1]:
            raise SameState(0, 1)

    def check_agreeing(self, rows):
        for x, y in Table.pairs_of(len(rows)):
            if self.lows is not None and not self.lows[x][y] <= rows[x][y] <= self.highs[x][y]:
                raise NotAgreeing(x, y)

    def check_notes(self):
        if self.lows is None:
            raise BadDeed(-2)

    def do_weigh(self, x, y, rate):
        self.check_states(x, y)
        if type(rate) is not int or rate < 0:
            raise BadNumber("rate")
        rows = copied(self.rows)
        rows[x][y] = rate
        Chain(rows)
        self.check_agreeing(rows)
        return (rows, self.lows, self.highs, self.seen)

    def do_speed(self, x, number):
        self.check_states(x)
        if type(number) is not int or number < 1:
            raise BadNumber("number")
        rows = copied(self.rows)
        rows[x] = [rate * number for rate in rows[x]]
        self.check_agreeing(rows)
        return (rows, self.lows, self.highs, self.seen)

    def do_turn(self):
        return tuple(None if rows is None else [list(row) for row in zip(*rows)]
                     for rows in (self.rows, self.lows, self.highs)) + (self.seen,)

    def do_narrow(self, x, y, low, high):
        self.check_notes()
        self.check_states(x, y)
        if type(low) is not int or low < self.lows[x][y]:
            raise BadNumber("low")
        if type(high) is not int or not low <= high <= self.highs[x][y]:
            raise BadNumber("high")
        if not low <= self.rows[x][y] <= high:
            raise NotAgreeing(x, y)
        return self.with_stretch(x, y, low, high)

    def do_ask(self, x, y):
        self.check_notes()
        self.check_states(x, y)
        return self.with_stretch(x, y, self.rows[x][y], self.rows[x][y])

    def with_stretch(self, x, y, low, high):
        lows, highs = copied(self.lows), copied(self.highs)
        lows[x][y], highs[x][y] = low, high
        return (self.rows, lows, highs, self.seen)

    def do_forget(self):
        return (self.rows, None, None, self.seen)

    def do_settle(self, aim):
        self.check_notes()
        return (greatest(Notes(self.lows, self.highs), aim).rows, self.lows, self.highs, self.seen)

    def do_watch(self, states):
        if not isinstance(states, (list, tuple)):
            raise BadSet(-1)
        for place, state in enumerate(states):
            if type(state) is not int or not 0 <= state < len(self.rows) or state in states[:place]:
                raise BadSet(place)
        if len(states) == 1:
            raise BadSet(-2)
        return (self.rows, self.lows, self.highs, tuple(sorted(states)))


def copied(rows):
    return None if rows is None else [list(row) for row in rows]


def state_of(desk):
    """What a desk shows of itself, in the form of `Book.state`."""
    notes = desk.notes
    return ([list(row) for row in desk.chain.rows],
            None if notes is None else [list(row) for row in notes.lows.rows],
            None if notes is None else [list(row) for row in notes.highs.rows], desk.watched_states, list(desk))


def outcome(call, *args):
    """The kind and the attributes of the error that a call raises; None if it raises none."""
    try:
        call(*args)
    except ChainError as error:
        return (type(error), vars(error))
    return None


def check_beside(case, desk, book):
    """Fails if the desk does not show what the book says."""
    case.assertEqual(state_of(desk), book.state())
    case.assertEqual((desk.many, len(desk)), (len(book.names), len(book.names)))
    case.assertIs(type(desk.chain), Chain)
    case.assertIs(type(desk.watched_states), tuple)


def aims_for_deeds(size):
    costs = [[0 if x == y else (3 * x + 5 * y) % 7 - 3 for y in range(size)] for x in range(size)]
    return [Ratio(0, size - 1), Ratio(1, 0), Mean(list(range(size))), Cost([1] * size, costs), Ratio(0, size),
            Mean([1] * (size + 1))]


class Draws:
    """Numbers that are the same ones in each run."""

    def __init__(self, seed):
        self.number = seed

    def below(self, many):
        self.number = (self.number * 6364136223846793005 + 1442695040888963407) % 2 ** 64
        return (self.number >> 40) % many

    def one_of(self, things):
        return things[self.below(len(things))]


def drawn_deed(draws, desk):
    """A deed for this desk, as data; some are allowed and some are refused."""
    size = desk.chain.size
    x, y = draws.below(size + (draws.below(12) == 0)), draws.below(size)
    if x == y and draws.below(8):
        x = (x + 1) % size
    low, high = desk.notes.stretch(x, y) if desk.notes is not None and x < size and x != y else (0, 4)
    kind = draws.below(20)
    if kind < 4:
        return ("weigh", x, y, low + draws.below(high - low + 3) - (draws.below(4) == 0))
    if kind < 6:
        return ["speed", x, draws.below(3)]
    if kind < 7:
        return ("turn",)
    if kind < 10:
        return ["narrow", x, y, low + draws.below(2), high - draws.below(2)]
    if kind < 12:
        return ("ask", x, y)
    if kind < 13:
        return ["forget"] if draws.below(3) == 0 else ["turn"]
    if kind < 16:
        return ("settle", draws.one_of(aims_for_deeds(size)))
    states = [z for z in range(size) if draws.below(2)]
    return ("watch", draws.one_of([states, tuple(states[::-1]), states + states[:1], (0, size), 7]))


def wide_notes():
    """Notes of 2 to 4 states with many unseen pairs."""
    chains = [complete(2), Chain([[0, 2, 0], [1, 0, 3], [4, 0, 0]]), complete(3) * 3,
              Chain([[0, 2, 1, 0], [0, 0, 3, 1], [1, 0, 0, 2], [2, 1, 0, 0]])]
    return [Notes(chain.rows, [[0 if x == y else rate + 3 for y, rate in enumerate(row)]
                               for x, row in enumerate(chain.rows)]) for chain in chains]


def some_worlds(notes):
    return [notes.lows, notes.highs, notes.world(notes.unseen()[::2])]


def desks_to_make():
    """Chains, notes or none, and watched states."""
    for notes in wide_notes():
        size = notes.size
        for chain, watch in product(some_worlds(notes), ([], list(range(size))[::-1], (size - 1, 0))):
            yield chain, notes, watch
            yield chain, None, watch

