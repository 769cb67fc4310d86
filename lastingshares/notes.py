"""Notes: a low and a high for the rate of each pair, and the tables that agree with them."""

from lastingshares.chains import Chain, pair_list
from lastingshares.errors import BadNotes, BadNumber, BadTable, NotAgreeing, OtherSize, TooMany
from lastingshares.numbers import check_number, is_int
from lastingshares.tables import Table, rows_with_rate


class Notes:
    """Lows and highs for the rates of 2 to 8 states. They never change."""

    def __init__(self, lows, highs):
        low, high = bounds_of(lows), bounds_of(highs)
        check_bounds(low, high)
        self.lows = Chain(low.rows)
        self.highs = Chain(high.rows)
        self.size = low.size
        pairs = Table.pairs_of(low.size)
        self._unseen_pairs = tuple([(x, y) for x, y in pairs if low.rows[x][y] < high.rows[x][y]])

    @property
    def unseen_many(self):
        """The number of unseen pairs."""
        return len(self._unseen_pairs)

    @classmethod
    def of_world(cls, chain):
        """Returns the notes whose only world is the chain."""
        return cls(chain.rows, chain.rows)

    @classmethod
    def around(cls, chain, below, above):
        """Returns the notes that reach from `below` under to `above` over the rate of each arrow, but not under 1."""
        check_number("below", below, 0)
        check_number("above", above, 0)
        lows = [[max(1, rate - below) if rate > 0 else 0 for rate in row] for row in chain.rows]
        highs = [[rate + above if rate > 0 else 0 for rate in row] for row in chain.rows]
        return cls(lows, highs)

    def stretch(self, x, y):
        """Returns the low and the high of the pair xy as a tuple."""
        return (self.lows.rate(x, y), self.highs.rate(x, y))

    def unseen(self):
        """Returns the ascending tuple of the unseen pairs."""
        return self._unseen_pairs

    def agrees(self, table):
        """Returns True if the table is a world of the notes."""
        return table.size == self.size and outside_pair(self, table, 1) is None

    def wrong_pair(self, table):
        """Returns the least pair whose rate is not in its stretch; None if there is none."""
        if table.size != self.size:
            raise OtherSize(table.size)
        return outside_pair(self, table, 1)

    def world(self, pairs):
        """Returns the world with these pairs high and all others low."""
        raised = pair_list(self.size, pairs)
        rows = [list(row) for row in self.lows.rows]
        for x, y in raised:
            rows[x][y] = self.highs.rows[x][y]
        return Chain(rows)

    def narrow(self, x, y, low, high):
        """Returns the notes with a stretch at xy that lies in the old one."""
        old_low, old_high = self.stretch(x, y)
        check_between("low", low, old_low, None)
        check_between("high", high, low, old_high)
        return with_stretch(self, x, y, low, high)

    def widen(self, x, y, low, high):
        """Returns the notes with a stretch at xy that contains the old one."""
        old_low, old_high = self.stretch(x, y)
        check_between("low", low, 0, old_low)
        check_between("high", high, old_high, None)
        return with_stretch(self, x, y, low, high)

    def ask(self, x, y, rate):
        """Returns the notes in which xy is seen to have this rate."""
        low, high = self.stretch(x, y)
        check_between("rate", rate, low, high)
        return with_stretch(self, x, y, rate, rate)

    def shape(self):
        """Returns the Chain with rate 1 at the pairs with a high of at least 1 and 0 elsewhere."""
        return Chain([[min(rate, 1) for rate in row] for row in self.highs.rows])

    def __iter__(self):
        return iter(self._unseen_pairs)

    def __len__(self):
        return len(self._unseen_pairs)

    def __and__(self, other):
        if other.size != self.size:
            raise OtherSize(other.size)
        lows = [[max(r, s) for r, s in zip(row, line)] for row, line in zip(self.lows.rows, other.lows.rows)]
        highs = [[min(r, s) for r, s in zip(row, line)] for row, line in zip(self.highs.rows, other.highs.rows)]
        return Notes(lows, highs)

    def __eq__(self, other):
        return isinstance(other, Notes) and self.lows == other.lows and self.highs == other.highs


def worlds(notes, *, limit=1000):
    """Returns the list of all worlds, ascending by their rows, at most `limit`."""
    stretches = all_stretches(notes)
    check_limit([high - low + 1 for low, high in stretches], limit)
    return worlds_of(notes.size, [list(range(low, high + 1)) for low, high in stretches])


def corners(notes, *, limit=1000):
    """Returns the list of the worlds in which each pair is high or low, ascending by their rows, at most `limit`."""
    choices = [[low] if low == high else [low, high] for low, high in all_stretches(notes)]
    check_limit([len(choice) for choice in choices], limit)
    return worlds_of(notes.size, choices)


def is_scaled(notes, scaled):
    """Returns True if the argument is a scaled world of the notes."""
    if not isinstance(scaled, tuple) or len(scaled) != 2:
        return False
    scale, table = scaled
    if not is_int(scale) or scale < 1 or not isinstance(table, Table):
        return False
    return table.size == notes.size and outside_pair(notes, table, scale) is None


def check_world(notes, world):
    """Raises an error if the table is no world of the notes."""
    wrong = notes.wrong_pair(world)
    if wrong is not None:
        x, y = wrong
        raise NotAgreeing(x, y)


def bounds_of(rows):
    """Returns the table of the lows or of the highs."""
    try:
        return Table(rows)
    except BadTable as wrong:
        raise BadNotes(wrong.x, wrong.y)


def check_bounds(low, high):
    """Raises an error if the tables have different sizes, or if a low is above its high."""
    if high.size != low.size:
        raise OtherSize(high.size)
    for x, y in Table.pairs_of(low.size):
        if low.rows[x][y] > high.rows[x][y]:
            raise BadNotes(x, y)


def check_between(name, number, least, most):
    """Raises BadNumber(name) if the number is not an integer from `least` to `most`; None stands for no upper end."""
    check_number(name, number, least)
    if most is not None and number > most:
        raise BadNumber(name)


def outside_pair(notes, table, scale):
    """Returns the least pair whose rate in the table is not in its stretch times the scale; None if there is none."""
    for x, y in Table.pairs_of(notes.size):
        low, high = notes.stretch(x, y)
        if table.rows[x][y] < scale * low or table.rows[x][y] > scale * high:
            return (x, y)
    return None


def with_stretch(notes, x, y, low, high):
    """Returns the notes with this stretch at xy."""
    return Notes(rows_with_rate(notes.lows, x, y, low), rows_with_rate(notes.highs, x, y, high))


def all_stretches(notes):
    """Returns the list of the stretches of all pairs, the pairs in ascending order."""
    return [notes.stretch(x, y) for x, y in Table.pairs_of(notes.size)]


def check_limit(numbers, limit):
    """Raises TooMany if there are more than `limit` ways to choose, with these numbers of choices in turn."""
    many = 1
    for number in numbers:
        many = many * number
    if many > limit:
        raise TooMany(limit)


def worlds_of(size, choices):
    """Returns the list of the Chains in which each pair, in ascending order, has one of its choices as its rate."""
    found = [()]
    for choice in choices:
        found = [rates + (rate,) for rates in found for rate in choice]
    return [Chain([row_at(size, rates, x) for x in range(size)]) for rates in found]


def row_at(size, rates, x):
    """Returns row x of the table whose pairs, in ascending order, have these rates."""
    start = x * (size - 1)
    return rates[start:start + x] + (0,) + rates[start + x:start + size - 1]
