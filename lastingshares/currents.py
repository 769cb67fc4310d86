"""Currents that fit a share row between lows and highs, and the scaled worlds that they make."""

from lastingshares.chains import Chain
from lastingshares.errors import BadCosts
from lastingshares.numbers import common_multiple, cost_rows
from lastingshares.rooms import share_row
from lastingshares.tables import Table, scaled_rows
from lastingshares.trees import lowest_row


def fitting(notes, row):
    """Returns fitting currents of the row; None if there are none."""
    entries = share_row(notes.size, row)
    return balanced_between(scaled_rows(notes.lows, entries), scaled_rows(notes.highs, entries))


def is_fitting(notes, row, currents):
    """Returns True if the argument is fitting currents of the row."""
    entries = share_row(notes.size, row)
    try:
        lines = cost_rows(notes.size, currents)
    except BadCosts:
        return False
    return fits_between(notes, entries, lines) and not any(surpluses(lines))


def scaled_of(row, currents):
    """Returns the scaled world of fitting currents of the row."""
    scale = common_multiple(row)
    return (scale, Chain([[number * (scale // entry) for number in line] for entry, line in zip(row, currents)]))


def chain_currents(chain):
    """Returns the chain's lowest row and the currents that belong to it, as a tuple."""
    row = lowest_row(chain)
    return (row, scaled_rows(chain, row))


def fits_between(notes, entries, lines):
    """Returns True if at each pair the number lies from the low to the high, each one times the entry of the tail."""
    for x, y in Table.pairs_of(notes.size):
        low, high = notes.stretch(x, y)
        if lines[x][y] < entries[x] * low or lines[x][y] > entries[x] * high:
            return False
    return True


def balanced_between(least, most):
    """Returns integers from `least` to `most`, row by row, with one sum into and out of each state, or None."""
    lines = least
    path = relieving_path(lines, least, most)
    # The paths are shortest ones, so their number has a bound that does not grow with the integers.
    while path is not None:
        lines = pushed_along(lines, least, most, path)
        path = relieving_path(lines, least, most)
    return None if any(surpluses(lines)) else tuple([tuple(line) for line in lines])


def surpluses(lines):
    """Returns for each state what comes in less what goes out."""
    return [sum([other[x] for other in lines]) - sum(line) for x, line in enumerate(lines)]


def relieving_path(lines, least, most):
    """Returns a shortest path from a state that gets too much to one that gets too little; None if there is none."""
    extra = surpluses(lines)
    paths = [(x,) for x, number in enumerate(extra) if number > 0]
    met = [path[0] for path in paths]
    while paths:
        ended = [path for path in paths if extra[path[-1]] < 0]
        if ended:
            return ended[0]
        longer = []
        # A copy is walked, since `paths` is the list `longer` of the round before.
        for path in list(paths):
            for y in range(len(lines)):
                if y not in met and spare(lines, least, most, path[-1], y) > 0:
                    met.append(y)
                    longer.append(path + (y,))
        paths = longer
    return None


def spare(lines, least, most, x, y):
    """Returns how much more can go from x to y: more along xy, and less along yx."""
    return most[x][y] - lines[x][y] + lines[y][x] - least[y][x]


def pushed_along(lines, least, most, path):
    """Returns the numbers behind a move of as much as possible from the first state of the path to its last one."""
    extra = surpluses(lines)
    steps = list(zip(path, path[1:]))
    spares = [spare(lines, least, most, x, y) for x, y in steps]
    amount = min([extra[path[0]], -extra[path[-1]]] + spares)
    found = [list(line) for line in lines]
    for x, y in steps:
        more = min(amount, most[x][y] - found[x][y])
        found[x][y] = found[x][y] + more
        found[y][x] = found[y][x] - (amount - more)
    return found
