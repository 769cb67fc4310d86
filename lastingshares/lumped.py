"""Lumps: sets of states that are taken as one state each."""

from lastingshares.carried import current_rows
from lastingshares.errors import BadSet
from lastingshares.numbers import is_list, is_state
from lastingshares.tables import Table
from lastingshares.trees import tree_row


def lumped(table, lots):
    """Returns the lumped currents as a tuple of rows, with 0 at lump i in row i."""
    lumps = lumps_of(table.size, lots)
    currents = current_rows(table)
    places = range(len(lumps))
    return tuple([
        tuple([0 if i == j else sum([currents[x][y] for x in lumps[i] for y in lumps[j]]) for j in places])
        for i in places
    ])


def lot_row(table, lots):
    """Returns the tuple of the lump sums."""
    lumps = lumps_of(table.size, lots)
    sums = tree_row(table)
    return tuple([sum([sums[x] for x in lump]) for lump in lumps])


def is_alike(table, lots):
    """Returns True if the lumps are alike."""
    return alike_rows(table, lumps_of(table.size, lots)) is not None


def alike_table(table, lots):
    """Returns the alike Table; None if the lumps are not alike or there is one alone."""
    lumps = lumps_of(table.size, lots)
    rows = alike_rows(table, lumps)
    return None if rows is None or len(lumps) == 1 else Table(rows)


def lumps_of(size, lots):
    """Returns the lumps in the order in which they are given, as a tuple of tuples."""
    if not is_list(lots):
        raise BadSet(-1)
    taken = []
    for place, lump in enumerate(lots):
        if not is_list(lump) or len(lump) == 0:
            raise BadSet(place)
        for state in lump:
            if not is_state(size, state) or state in taken:
                raise BadSet(place)
            taken.append(state)
    if len(taken) < size:
        raise BadSet(-2)
    return tuple([tuple(lump) for lump in lots])


def alike_rows(table, lumps):
    """Returns the rates from each lump to each other one, row by row; None if they differ within a lump."""
    rows = []
    for place, lump in enumerate(lumps):
        lines = [lump_rates(table, lumps, x, place) for x in lump]
        if any([line != lines[0] for line in lines]):
            return None
        rows.append(lines[0])
    return rows


def lump_rates(table, lumps, x, place):
    """Returns the sums of the rates from x to the lumps, with 0 at the place of its own lump."""
    return [0 if at == place else sum([table.rows[x][y] for y in lump]) for at, lump in enumerate(lumps)]
