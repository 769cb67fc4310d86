"""Rooms: whether a lot of states can get as much as it must send out. Level lots of heights."""

from lastingshares.errors import BadRow
from lastingshares.numbers import is_list, is_size, lot_of, row_at_least, row_of, states_of


def share_row(size, thing):
    """Returns a share row, integers of at least 1, as a tuple."""
    return row_at_least(size, thing, 1)


def room(notes, row, states):
    """Returns the room of the set of states: the most that can come in, less the least that must go out."""
    entries = share_row(notes.size, row)
    return room_at(notes, entries, states_of(notes.size, states))


def rooms(notes, row):
    """Returns the list of all lots, ascending, each one beside its room."""
    entries = share_row(notes.size, row)
    return [(lot, room_at(notes, entries, lot)) for lot in all_lots(notes.size)]


def least_room(notes, row):
    """Returns the least room of any lot, and the least lot that has it, as a tuple."""
    return min([(number, lot) for lot, number in rooms(notes, row)])


def tight_lots(notes, row):
    """Returns the ascending list of the lots whose room is 0."""
    return [lot for lot, number in rooms(notes, row) if number == 0]


def room_row(notes, lot):
    """Returns the room row of the lot."""
    return factors_of(notes, lot_of(notes.size, lot))


def level_lots(heights):
    """Returns the level lots of the heights with their times, the one of the highest states first."""
    if not is_list(heights) or not is_size(len(heights)):
        raise BadRow(-1)
    row = row_of(len(heights), heights)
    levels = sorted(set(row))[::-1]
    return [(states_from(row, high), high - low) for high, low in zip(levels, levels[1:])]


def all_lots(size):
    """Returns the ascending list of all lots of the states 0 .. size - 1."""
    found = [()]
    for x in range(size):
        found = found + [lot + (x,) for lot in found]
    return sorted([lot for lot in found if 0 < len(lot) < size])


def room_at(notes, entries, states):
    """Returns the room of the states at the share row."""
    return sum([factor * entry for factor, entry in zip(factors_of(notes, states), entries)])


def factors_of(notes, states):
    """Returns for each state what one of its entry adds to the room of the states."""
    others = [y for y in range(notes.size) if y not in states]
    factors = []
    for x in range(notes.size):
        if x in states:
            factors.append(-sum([notes.lows.rows[x][y] for y in others]))
        else:
            factors.append(sum([notes.highs.rows[x][y] for y in states]))
    return tuple(factors)


def states_from(row, height):
    """Returns the ascending tuple of the states whose entry is at least this height."""
    return tuple([x for x, entry in enumerate(row) if entry >= height])
