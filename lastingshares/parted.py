"""Parted walks, and the states that separate two starts from two ends."""

from lastingshares.numbers import check_states
from lastingshares.walks import has_walk, shortest_walk, walks_past


def parted_walks(table, x, y, z, u):
    """Returns a walk from x to y and one from z to u without a common state; None if there are none."""
    check_states(table.size, (x, y, z, u))
    ends = (z, u)
    if x in ends or y in ends:
        return None
    # The walks are ascending, and sorting keeps this order among those of one length.
    firsts = list(walks_past(table, x, y, ends))
    for first in sorted(firsts, key=len):
        second = shortest_walk(table, z, u, without=first)
        if second is not None:
            return (first, second)
    return None


def separating(table, a, b, c, e):
    """Returns the least state that is in every walk from a or b to c or e; None if there is none."""
    check_states(table.size, (a, b, c, e), ((0, 1), (2, 3)))
    for state in range(table.size):
        if not any([has_walk(table, x, y, without=(state,)) for x in (a, b) for y in (c, e)]):
            return state
    return None
