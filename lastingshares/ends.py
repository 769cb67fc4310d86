"""The greatest and the least worlds of notes for an aim."""

from lastingshares.chains import Chain
from lastingshares.notes import check_world


def greatest(notes, aim):
    """Returns a greatest world."""
    aim.check(notes.size)
    return best_world(notes, aim, 1)


def least(notes, aim):
    """Returns a least world."""
    aim.check(notes.size)
    return best_world(notes, aim, -1)


def is_greatest(notes, aim, world):
    """Returns True if no world has a greater fraction."""
    return better(notes, aim, world) is None


def is_least(notes, aim, world):
    """Returns True if no world has a lesser fraction."""
    aim.check(notes.size)
    check_world(notes, world)
    return not bettering(notes, aim, world, -1)


def better(notes, aim, world):
    """Returns the least pair that alone makes the fraction greater, with its rate, as a tuple; None if none does."""
    aim.check(notes.size)
    check_world(notes, world)
    steps = bettering(notes, aim, world, 1)
    return steps[0] if steps else None


def ends_of(notes, aim):
    """Returns the tuple of the least and the greatest fraction of all worlds."""
    return (aim(least(notes, aim)), aim(greatest(notes, aim)))


def best_world(notes, aim, sign):
    """Returns a greatest world if the sign is 1, a least one if it is -1."""
    world = notes.lows
    steps = bettering(notes, aim, world, sign)
    # The fraction moves one way only, so no world comes twice.
    while steps:
        rows = [list(row) for row in world.rows]
        for a, b, rate in steps:
            rows[a][b] = rate
        world = Chain(rows)
        steps = bettering(notes, aim, world, sign)
    return world


def bettering(notes, aim, world, sign):
    """Returns the ascending list of the pairs that alone move the fraction the way of the sign, with their rates."""
    pushes = aim.pushes_in(world)
    steps = []
    for a, b in notes:
        low, high = notes.stretch(a, b)
        rate = best_rate(sign * pushes[a][b], low, world.rows[a][b], high)
        if rate != world.rows[a][b]:
            steps.append((a, b, rate))
    return steps


def best_rate(push, low, rate, high):
    """Returns the high if the push is above 0, the low if it is below 0, and otherwise the rate as it is."""
    if push > 0:
        return high
    return low if push < 0 else rate
