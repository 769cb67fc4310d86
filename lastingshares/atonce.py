"""Worlds that are best from every state at once: soonest, latest and likeliest ones."""

from lastingshares.aims import Mean, Ratio
from lastingshares.comings import coming_row
from lastingshares.ends import best_rate, greatest, least
from lastingshares.longs import long_row
from lastingshares.notes import check_world
from lastingshares.numbers import check_states


def soonest(notes, c):
    """Returns a world in which the mean time to c is the least from every state."""
    return greatest(notes, share_aim(notes, c))


def latest(notes, c):
    """Returns a world in which the mean time to c is the greatest from every state."""
    return least(notes, share_aim(notes, c))


def likeliest(notes, c, e):
    """Returns a world in which the chance of c before e is the greatest from every state."""
    return greatest(notes, Ratio(c, e))


def is_soonest(notes, world, c):
    """Returns True if no world has a lesser mean time to c from any state."""
    check_states(notes.size, (c,))
    check_world(notes, world)
    # A push on the share of c is what the longs to c fall by along the pair.
    return follows(notes, world, [-number for number in long_row(world, c)], (c,))


def is_likeliest(notes, world, c, e):
    """Returns True if no world has a greater chance of c before e from any state."""
    check_states(notes.size, (c, e), ((0, 1),))
    check_world(notes, world)
    return follows(notes, world, coming_row(world, c, e), (c, e))


def share_aim(notes, c):
    """Returns the share aim of c."""
    check_states(notes.size, (c,))
    return Mean([1 if x == c else 0 for x in range(notes.size)])


def follows(notes, world, heights, ends):
    """Returns True if each unseen pair out of no end is high where the heights rise along it, low where they fall."""
    for a, b in notes:
        low, high = notes.stretch(a, b)
        rate = world.rows[a][b]
        if a not in ends and best_rate(heights[b] - heights[a], low, rate, high) != rate:
            return False
    return True
