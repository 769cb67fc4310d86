"""Worlds between two worlds, and a scaled world for every fraction between the least and the greatest one."""

from lastingshares.compared import changed_pairs
from lastingshares.ends import greatest, least
from lastingshares.numbers import check_fraction
from lastingshares.trees import divided


def world_at(notes, aim, u, v):
    """Returns a scaled world with the fraction u : v for the aim; None if there is none."""
    aim.check(notes.size)
    check_fraction(u, v)
    path = towards(least(notes, aim), greatest(notes, aim))
    offs = [off_by(aim, world, u, v) for world in path]
    if offs[0] > 0 or offs[-1] < 0:
        return None
    place = [off >= 0 for off in offs].index(True)
    if offs[place] == 0:
        return (1, path[place])
    # These two worlds differ in one rate alone, and both integers of the aim move evenly with it.
    above, below = divided((offs[place], -offs[place - 1]))
    return (above + below, path[place - 1] * above + path[place] * below)


def towards(first, second):
    """Returns the Chains from the first one to the second one, each with one more rate of the second one."""
    path = [first]
    for x, y in changed_pairs(first, second):
        path.append(path[-1].with_rate(x, y, second.rows[x][y]))
    return path


def off_by(aim, world, u, v):
    """Returns an integer that is above, at or below 0 as the fraction of the aim is above, at or below u : v."""
    over, under = aim.pair_in(world)
    return over * v - u * under
