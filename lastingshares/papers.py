"""Papers: heights that show a bound for all tables with rates between lows and highs."""

from lastingshares.aims import Cost, Ratio
from lastingshares.comings import coming_row
from lastingshares.ends import greatest, least
from lastingshares.longs import weighted_longs
from lastingshares.numbers import check_number, check_states, cost_rows, row_of
from lastingshares.trees import tree_row, tree_total


def bound_row(notes, heights, *, scale=1, costs=None):
    """Returns the bound row of the heights."""
    row = row_of(notes.size, heights)
    check_number("scale", scale, 1)
    lines = costs_or_zeros(notes.size, costs)
    return tuple([bound_at(notes, row, scale, lines, x) for x in range(notes.size)])


def is_paper(notes, row, scale, heights, *, costs=None):
    """Returns True if the scale and the heights are a paper for the row and the costs."""
    entries = row_of(notes.size, row)
    check_number("scale", scale, 1)
    bounds = bound_row(notes, heights, scale=scale, costs=costs)
    return all([bound <= scale * entry for bound, entry in zip(bounds, entries)])


def paper(notes, row, *, costs=None):
    """Returns a paper for the row and the costs, a tuple of the scale and the heights; None if there is none."""
    aim = checked_cost(notes, row, costs)
    world = least(notes, aim)
    if aim.pair_in(world)[0] < 0:
        return None
    return (tree_total(world), weighted_longs(world, aim.state_costs(world)))


def against(notes, row, *, costs=None):
    """Returns a world in which the sum of the row and the costs is below 0; None if there is none."""
    aim = checked_cost(notes, row, costs)
    world = least(notes, aim)
    return world if aim.pair_in(world)[0] < 0 else None


def ratio_paper(notes, c, e):
    """Returns the tree sums of c and e in a greatest world for their ratio, and its coming row, as a tuple."""
    world = greatest(notes, Ratio(c, e))
    row = tree_row(world)
    return (row[c], row[e], coming_row(world, c, e))


def at_least(notes, c, e, u, v):
    """Returns True if the ratio of c and e is at least u : v in every world."""
    check_states(notes.size, (c, e), ((0, 1),))
    check_number("u", u, 1)
    check_number("v", v, 1)
    aim = Ratio(c, e)
    over, under = aim(least(notes, aim))
    return over * v >= u * under


def costs_or_zeros(size, costs):
    """Returns the costs as a tuple of tuples; None stands for costs that are all 0."""
    return cost_rows(size, ((0,) * size,) * size if costs is None else costs)


def checked_cost(notes, row, costs):
    """Returns the cost of the row and the costs as an aim."""
    entries = row_of(notes.size, row)
    return Cost(entries, costs_or_zeros(notes.size, costs))


def bound_at(notes, row, scale, lines, x):
    """Returns the most that the drift of the heights at x, less the costs there, can be between lows and highs."""
    total = 0
    for low, high, height, cost in zip(notes.lows.rows[x], notes.highs.rows[x], row, lines[x]):
        rise = height - row[x] - scale * cost
        total = total + max(low * rise, high * rise)
    return total
