"""The box of all greatest worlds, and what wider stretches do to the greatest fraction."""

from lastingshares.ends import greatest
from lastingshares.notes import Notes
from lastingshares.numbers import check_states


def decided(notes, aim):
    """Returns the tuples of the unseen pairs that are decided high, decided low and free."""
    pushes = greatest_pushes(notes, aim)
    high = tuple([(a, b) for a, b in notes if pushes[a][b] > 0])
    low = tuple([(a, b) for a, b in notes if pushes[a][b] < 0])
    return (high, low, tuple([(a, b) for a, b in notes if pushes[a][b] == 0]))


def box(notes, aim):
    """Returns the notes whose worlds are just the greatest worlds."""
    high, low, _ = decided(notes, aim)
    lows, highs = notes.world(high), [list(row) for row in notes.highs.rows]
    for a, b in low:
        highs[a][b] = notes.lows.rows[a][b]
    return Notes(lows.rows, highs)


def grows_high(notes, aim, x, y):
    """Returns True if the greatest fraction becomes greater when the high of xy is raised by 1."""
    aim.check(notes.size)
    check_states(notes.size, (x, y), ((0, 1),))
    return greatest_pushes(notes, aim)[x][y] > 0


def grows_low(notes, aim, x, y):
    """Returns True if the greatest fraction becomes greater when the low of xy is lowered by 1."""
    aim.check(notes.size)
    low, high = notes.stretch(x, y)
    # This raises an error if there are no such notes.
    notes.widen(x, y, low - 1, high)
    return greatest_pushes(notes, aim)[x][y] < 0


def greatest_pushes(notes, aim):
    """Returns the pushes of the aim at all pairs in a greatest world, row by row."""
    return aim.pushes_in(greatest(notes, aim))
