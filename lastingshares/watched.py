"""Tables that are watched in some of their states only."""

from lastingshares.chains import Chain
from lastingshares.comings import coming_row
from lastingshares.errors import BadNumber, BadSet
from lastingshares.numbers import check_states, states_of
from lastingshares.sums import forest_row
from lastingshares.tables import Table


def watched(table, states):
    """Returns the table watched in these states; a Chain if the table is one."""
    seen = watched_set(table.size, states)
    # For each watched state, how surely a thing comes to it first among the watched ones, from each state.
    firsts = [forest_row(table, c, seen) for c in seen]
    rows = [[0 if place == at else through(table, x, firsts[at]) for at in range(len(seen))]
            for place, x in enumerate(seen)]
    return Chain(rows) if isinstance(table, Chain) else Table(rows)


def left_out(table, z):
    """Returns the table with z left out; a Chain if the table is one."""
    check_states(table.size, (z,))
    if table.size == 2:
        raise BadNumber("size")
    return watched(table, [x for x in range(table.size) if x != z])


def places_in(states, x):
    """Returns the state of the watched table that stands for x; None if x is not watched."""
    if x not in states:
        return None
    return len([state for state in states if state < x])


def time_in(table, states, x, c):
    """Returns the time in the set from x to c."""
    seen = watched_set(table.size, states)
    check_states(table.size, (x, c))
    if c not in seen:
        raise BadSet(-3)
    return sum([coming_row(table, z, c)[x] for z in seen if z != c])


def watched_set(size, states):
    """Returns a set of at least two states as an ascending tuple."""
    seen = states_of(size, states)
    if len(seen) < 2:
        raise BadSet(-2)
    return seen


def through(table, x, row):
    """Returns the sum of the rates out of x, each one times the entry of its head in the row."""
    return sum([rate * entry for rate, entry in zip(table.rows[x], row)])
