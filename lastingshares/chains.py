"""Chains, which are joined tables, and lists of pairs and arrows."""

from lastingshares.errors import BadNumber, BadPair, BadRow, NotArrow, NotJoined
from lastingshares.numbers import is_list, is_pair, is_size, row_at_least
from lastingshares.tables import Table, rows_added, rows_multiplied, rows_times, rows_turned, rows_with_rate
from lastingshares.walks import distances_to


class Chain(Table):
    """A table in which a walk leads from each state to each state."""

    WORD = "chain"

    def __init__(self, rows):
        super().__init__(rows)
        lot = closed_lot(self)
        if lot is not None:
            raise NotJoined(lot)

    @classmethod
    def around(cls, rates):
        """Returns the chain whose arrows are the ring 0, 1, .., n - 1, with these rates in order."""
        if not is_list(rates) or not is_size(len(rates)):
            raise BadRow(-1)
        size = len(rates)
        row = row_at_least(size, rates, 1)
        return cls([[row[x] if y == (x + 1) % size else 0 for y in range(size)] for x in range(size)])

    @classmethod
    def of_arrows(cls, size, arrows):
        """Returns the chain with rate 1 at these pairs and 0 at all others."""
        if not is_size(size):
            raise BadNumber("size")
        pairs = pair_list(size, arrows)
        return cls([[1 if (x, y) in pairs else 0 for y in range(size)] for x in range(size)])

    def with_rate(self, x, y, rate):
        """Returns a new chain with this rate at the pair xy."""
        return Chain(rows_with_rate(self, x, y, rate))

    def times(self, x, number):
        """Returns a new chain in which all rates out of x are multiplied by the number."""
        return Chain(rows_times(self, x, number))

    def __add__(self, other):
        rows = rows_added(self, other)
        return Chain(rows) if isinstance(other, Chain) else Table(rows)

    def __mul__(self, other):
        return Chain(rows_multiplied(self, other))

    def __invert__(self):
        return Chain(rows_turned(self))


def closed_lot(table):
    """Returns the states to which walks lead from the least state that does not reach all; None if all do."""
    states = range(table.size)
    distances = [distances_to(table, y, ()) for y in states]
    for x in states:
        lot = tuple([y for y in states if x in distances[y]])
        if len(lot) < table.size:
            return lot
    return None


def is_joined(table):
    """Returns True if a walk leads from each state to each state."""
    return closed_lot(table) is None


def pair_list(size, pairs):
    """Returns different pairs of the states 0 .. size - 1 as an ascending tuple."""
    if not is_list(pairs):
        raise BadPair(-1)
    found = []
    for place, pair in enumerate(pairs):
        if not is_pair(size, pair) or tuple(pair) in found:
            raise BadPair(place)
        found.append(tuple(pair))
    return tuple(sorted(found))


def arrow_list(table, pairs):
    """Returns different arrows of the table as an ascending tuple."""
    found = pair_list(table.size, pairs)
    for x, y in found:
        if table.rows[x][y] == 0:
            raise NotArrow(x, y)
    return found


def same_shape(table, other):
    """Returns True if both tables have the same states and the same arrows."""
    return table.size == other.size and table.arrows() == other.arrows()


def with_fast(chain, pairs, rate):
    """Returns the Chain of the same shape with this rate at those of its arrows that are among the pairs, else 1."""
    rows = [[0] * chain.size for _ in range(chain.size)]
    for x, y in chain:
        rows[x][y] = rate if (x, y) in pairs else 1
    return Chain(rows)
