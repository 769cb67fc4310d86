"""The errors of the package. Each one keeps its arguments as attributes."""


class ChainError(Exception):
    """The base class of all errors of the package."""


class BadNumber(ChainError):
    """The argument called `name` is not a number of the kind that is asked for."""

    def __init__(self, name):
        self.name = name


class BadState(ChainError):
    """The state argument at `place`, counted from 0, is not a state."""

    def __init__(self, place):
        self.place = place


class SameState(ChainError):
    """The state arguments at these two places must be different, and are equal."""

    def __init__(self, first, second):
        self.first = first
        self.second = second


class BadSet(ChainError):
    """A set of states is wrong: at entry `place`, or as a whole if `place` is below 0."""

    def __init__(self, place):
        self.place = place


class BadTable(ChainError):
    """Rows of rates are wrong: at entry y of row x, at row x if y is -1, or as a whole."""

    def __init__(self, x, y):
        self.x = x
        self.y = y


class NotJoined(ChainError):
    """The table is not joined: no arrow leads out of the lot, an ascending tuple."""

    def __init__(self, lot):
        self.lot = lot


class OtherSize(ChainError):
    """Two things must have the same number of states; one has `size` instead."""

    def __init__(self, size):
        self.size = size


class BadPair(ChainError):
    """Pairs or arrows are wrong: at entry `place`, or as a whole if `place` is below 0."""

    def __init__(self, place):
        self.place = place


class NotArrow(ChainError):
    """The pair xy is not an arrow of the table."""

    def __init__(self, x, y):
        self.x = x
        self.y = y


class BadRow(ChainError):
    """A row of integers is wrong: at entry `place`, or as a whole if `place` is -1."""

    def __init__(self, place):
        self.place = place


class BadForest(ChainError):
    """A forest is wrong: at the entry of state `place`, or as a whole if it is below 0."""

    def __init__(self, place):
        self.place = place


class BadRing(ChainError):
    """A ring is wrong: at entry `place`, or as a whole if `place` is -1."""

    def __init__(self, place):
        self.place = place


class BadCosts(ChainError):
    """Costs are wrong: at entry y of row x, at row x if y is -1, or as a whole."""

    def __init__(self, x, y):
        self.x = x
        self.y = y


class BadNotes(ChainError):
    """Lows and highs make no notes: at the pair xy, at row x if y is -1, or as a whole."""

    def __init__(self, x, y):
        self.x = x
        self.y = y


class NotAgreeing(ChainError):
    """The rate of the pair xy is not in its stretch."""

    def __init__(self, x, y):
        self.x = x
        self.y = y


class NoTree(ChainError):
    """A fraction is not defined, because the sum that divides is 0."""


class NotReached(ChainError):
    """No scaled world has the row: the lot, an ascending tuple, has no room for it."""

    def __init__(self, lot):
        self.lot = lot


class TooMany(ChainError):
    """There are more than `number` results."""

    def __init__(self, number):
        self.number = number


class BadText(ChainError):
    """The text of a table is wrong in this line, counted from 0."""

    def __init__(self, line):
        self.line = line


class NoDeed(ChainError):
    """No deed stands that could be taken back."""


class BadDeed(ChainError):
    """A deed is wrong: at entry `place`, or not possible here if `place` is below 0."""

    def __init__(self, place):
        self.place = place
