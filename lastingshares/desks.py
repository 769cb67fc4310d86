"""Desks: a chain, its notes and its watched states, kept through deeds that can be taken back."""

from lastingshares.deeds import deed_list, do_deed
from lastingshares.ends import ends_of, greatest
from lastingshares.errors import BadDeed, BadSet, NoDeed, OtherSize
from lastingshares.notes import Notes, check_world
from lastingshares.numbers import states_of
from lastingshares.texts import table_text
from lastingshares.trees import shares
from lastingshares.trials import Trial
from lastingshares.verdicts import share_verdict
from lastingshares.watched import watched


class Desk:
    """A chain, notes or none, watched states, and the deeds that stand."""

    def __init__(self, chain, *, notes=None, watch=()):
        if notes is not None and notes.size != chain.size:
            raise OtherSize(notes.size)
        check_agreeing(notes, chain)
        self.watched = watch_set(chain.size, watch)
        self.chain = chain
        self.notes = notes
        self.names = ()
        # What there was before the last deed that stands: chain, notes, watched states, names, and their own past.
        self.past = None

    @property
    def many(self):
        """The number of deeds that stand."""
        return len(self.names)

    @property
    def watched_states(self):
        """The ascending tuple of the watched states."""
        return self.watched

    @watched_states.setter
    def watched_states(self, value):
        """Raises BadDeed(-1): the watched states are replaced by a deed alone."""
        raise BadDeed(-1)

    def weigh(self, x, y, rate):
        """Replaces one rate of the chain."""
        chain = self.chain.with_rate(x, y, rate)
        check_agreeing(self.notes, chain)
        return self.done("weigh", chain, self.notes, self.watched)

    def speed(self, x, number):
        """Multiplies all rates out of x by the number."""
        chain = self.chain.times(x, number)
        check_agreeing(self.notes, chain)
        return self.done("speed", chain, self.notes, self.watched)

    def turn(self):
        """Turns the chain and the notes."""
        return self.done("turn", ~self.chain, turned_notes(self.notes), self.watched)

    def narrow(self, x, y, low, high):
        """Replaces one stretch of the notes by a narrower one."""
        self.check_notes()
        notes = self.notes.narrow(x, y, low, high)
        check_agreeing(notes, self.chain)
        return self.done("narrow", self.chain, notes, self.watched)

    def ask(self, x, y):
        """Narrows a stretch of the notes to the rate that the chain has."""
        self.check_notes()
        notes = self.notes.ask(x, y, self.chain.rate(x, y))
        return self.done("ask", self.chain, notes, self.watched)

    def forget(self):
        """Gives up the notes."""
        return self.done("forget", self.chain, None, self.watched)

    def settle(self, aim):
        """Replaces the chain by a greatest world of the notes for the aim."""
        self.check_notes()
        return self.done("settle", greatest(self.notes, aim), self.notes, self.watched)

    def watch(self, states):
        """Replaces the watched states, and returns them as an ascending tuple."""
        self.done("watch", self.chain, self.notes, watch_set(self.chain.size, states))
        return self.watched

    def undo(self):
        """Takes the last deed back, and returns the chain that the desk has then."""
        if self.past is None:
            raise NoDeed()
        self.chain, self.notes, self.watched, self.names, self.past = self.past
        return self.chain

    def shares(self):
        """Returns the tuple of the shares of all states of the chain."""
        return shares(self.chain)

    def verdicts(self, a, b):
        """Returns the tuple of the share words of ab on all states."""
        return tuple([share_verdict(self.chain, a, b, c) for c in range(self.chain.size)])

    def seen_alone(self):
        """Returns the chain watched in the watched states, or in all states if none are watched."""
        return watched(self.chain, self.watched if self.watched else tuple(range(self.chain.size)))

    def ends(self, aim):
        """Returns the tuple of the least and the greatest fraction of the aim at the notes."""
        self.check_notes()
        return ends_of(self.notes, aim)

    def what_if(self, deeds, question, *rest):
        """Returns what the question returns for the chain behind the deeds, and takes everything back."""
        listed = deed_list(deeds)
        with Trial(self):
            for deed in listed:
                do_deed(self, deed)
            return question(self.chain, *rest)

    def words(self):
        """Returns the chain as a text, the number of deeds that stand, and the number of unseen pairs."""
        unseen = "none" if self.notes is None else str(self.notes.unseen_many)
        return f"{table_text(self.chain)}\ndeeds {self.many}\nunseen {unseen}"

    def check_notes(self):
        """Raises BadDeed(-2) if there are no notes."""
        if self.notes is None:
            raise BadDeed(-2)

    def done(self, name, chain, notes, seen):
        """Adds a deed of this name, behind which the desk has this chain, these notes and these watched states."""
        self.past = (self.chain, self.notes, self.watched, self.names, self.past)
        self.chain = chain
        self.notes = notes
        self.watched = seen
        self.names = self.names + (name,)
        return chain

    def __iter__(self):
        return iter(self.names)

    def __len__(self):
        return len(self.names)


def check_agreeing(notes, chain):
    """Raises NotAgreeing with the least pair whose rate is not in its stretch; without notes, every chain agrees."""
    if notes is not None:
        check_world(notes, chain)


def watch_set(size, states):
    """Returns no state, or two or more states, as an ascending tuple."""
    seen = states_of(size, states)
    if len(seen) == 1:
        raise BadSet(-2)
    return seen


def turned_notes(notes):
    """Returns the notes in which xy has the stretch of yx; None if there are none."""
    return None if notes is None else Notes((~notes.lows).rows, (~notes.highs).rows)
