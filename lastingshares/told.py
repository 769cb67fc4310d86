"""What a share row tells about the rates between lows and highs."""

from lastingshares.currents import balanced_between, scaled_of
from lastingshares.errors import NotReached
from lastingshares.numbers import check_states, fraction
from lastingshares.rooms import rooms, share_row
from lastingshares.tables import scaled_rows


def rate_span(notes, row, x, y):
    """Returns the least and the greatest rate of xy over all scaled worlds that have the row, as a tuple."""
    check_states(notes.size, (x, y), ((0, 1),))
    entries = share_row(notes.size, row)
    low, high = current_span(notes, entries, (x, y), reached_rooms(notes, entries))
    return (fraction(low, entries[x]), fraction(high, entries[x]))


def told_pairs(notes, row):
    """Returns the ascending tuple of the unseen pairs that have one rate in all scaled worlds with the row."""
    told, _ = told_and_open(notes, row)
    return told


def tells_rates(notes, row):
    """Returns True if all unseen pairs are told by the row."""
    _, still_open = told_and_open(notes, row)
    return len(still_open) == 0


def two_worlds(notes, row):
    """Returns two scaled worlds with the row that differ in the rate of some pair; None if there are none."""
    _, still_open = told_and_open(notes, row)
    if len(still_open) == 0:
        return None
    entries = share_row(notes.size, row)
    low, high = current_span(notes, entries, still_open[0], reached_rooms(notes, entries))
    return (world_carrying(notes, entries, still_open[0], low), world_carrying(notes, entries, still_open[0], high))


def reached_rooms(notes, entries):
    """Returns the list of all lots with their rooms; none of these may be below 0."""
    found = rooms(notes, entries)
    for lot, number in found:
        if number < 0:
            raise NotReached(lot)
    return found


def told_and_open(notes, row):
    """Returns the tuples of the unseen pairs that are told by the row and of those that are not."""
    entries = share_row(notes.size, row)
    found = reached_rooms(notes, entries)
    spans = {pair: current_span(notes, entries, pair, found) for pair in notes}
    told = tuple([pair for pair in notes if spans[pair][0] == spans[pair][1]])
    return (told, tuple([pair for pair in notes if pair not in told]))


def current_span(notes, entries, pair, found):
    """Returns the least and the greatest current of the pair among all fitting currents of the row, as a tuple."""
    x, y = pair
    low, high = [entries[x] * bound for bound in notes.stretch(x, y)]
    # Where a lot has less room than the stretch is wide, the pair into it or out of it cannot use the whole stretch.
    into = [high - number for lot, number in found if y in lot and x not in lot]
    out = [low + number for lot, number in found if x in lot and y not in lot]
    return (max([low] + into), min([high] + out))


def world_carrying(notes, entries, pair, number):
    """Returns a scaled world with the row in which the pair has this current, one of its span."""
    least = with_number(scaled_rows(notes.lows, entries), pair, number)
    most = with_number(scaled_rows(notes.highs, entries), pair, number)
    return scaled_of(entries, balanced_between(least, most))


def with_number(lines, pair, number):
    """Returns the rows with this number at the pair."""
    x, y = pair
    changed = lines[x][:y] + (number,) + lines[x][y + 1:]
    return lines[:x] + (changed,) + lines[x + 1:]
