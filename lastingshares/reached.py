"""Share rows that are reached between lows and highs, and the rates of one state that give a share row."""

from lastingshares.currents import fitting, scaled_of
from lastingshares.numbers import check_states, fraction
from lastingshares.rooms import least_room, share_row


def is_reached(notes, row):
    """Returns True if some scaled world has the row."""
    return short_lot(notes, row) is None


def short_lot(notes, row):
    """Returns a lot whose room is below 0; None if the row is reached."""
    number, lot = least_room(notes, row)
    return lot if number < 0 else None


def world_with(notes, row):
    """Returns a scaled world that has the row; None if there is none."""
    currents = fitting(notes, row)
    return None if currents is None else scaled_of(row, currents)


def rates_of_state(chain, x, row):
    """Returns the rates out of x that give the row, as fractions; None if one of them is below 0."""
    check_states(chain.size, (x,))
    entries = share_row(chain.size, row)
    numbers = [0 if b == x else missing_at(chain, x, entries, b) for b in range(chain.size)]
    if min(numbers) < 0:
        return None
    return tuple([fraction(number, entries[x]) for number in numbers])


def missing_at(chain, x, entries, b):
    """Returns what b sends out less what it gets from all states but x."""
    got = sum([entries[y] * chain.rows[y][b] for y in range(chain.size) if y != x])
    return entries[b] * sum(chain.rows[b]) - got
