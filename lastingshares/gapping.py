"""How far a share row is from the best world, as a sum over a few lots."""

from lastingshares.aims import Ratio, check_costless
from lastingshares.comings import coming_row
from lastingshares.ends import greatest, least
from lastingshares.longs import weighted_longs
from lastingshares.rooms import level_lots, room_at, share_row


def gap_lots(notes, aim):
    """Returns the list of the gap lots with their times, in the order of level lots."""
    check_costless(aim, notes.size)
    world = best_world_of(notes, aim)
    if isinstance(aim, Ratio):
        return level_lots(coming_row(world, aim.over, aim.under))
    return level_lots(weighted_longs(world, aim.row))


def gap(notes, aim, row):
    """Returns the gap of the row."""
    check_costless(aim, notes.size)
    entries = share_row(notes.size, row)
    u, v = aim.pair_in(best_world_of(notes, aim))
    if isinstance(aim, Ratio):
        return u * entries[aim.under] - v * entries[aim.over]
    return v * sum([number * entry for number, entry in zip(aim.row, entries)]) - u * sum(entries)


def gap_by_lots(notes, aim, row):
    """Returns the sum of times * room at the row over the gap lots."""
    lots = gap_lots(notes, aim)
    entries = share_row(notes.size, row)
    return sum([times * room_at(notes, entries, lot) for lot, times in lots])


def best_world_of(notes, aim):
    """Returns the world by which gaps are measured: a greatest one for a ratio, a least one for a mean."""
    return greatest(notes, aim) if isinstance(aim, Ratio) else least(notes, aim)
