"""Sums of the weights of forests, as determinants and by listing."""

from lastingshares.errors import BadPair, TooMany
from lastingshares.forests import forest_weight, forests, lead, roots_of
from lastingshares.numbers import check_states, is_list, is_state, states_of

MOST_LISTED = 20000


def forest_sum(table, roots):
    """Returns the sum of the weights of all forests with these roots."""
    chosen = roots_of(table.size, roots)
    return sum_over(table.rows, chosen)


def forest_row(table, c, others=()):
    """Returns for each state x the sum over the forests with the roots c and `others` in which x leads to c."""
    check_states(table.size, (c,))
    roots = (c,) + states_of(table.size, others)
    states = list(range(table.size))
    left = [x for x in states if x not in roots]
    rows = out_rows(table.rows, states, left)
    toward = [table.rows[x][c] for x in left]
    found = dict(zip(left, replaced_determinants(rows, toward)))
    found[c] = determinant(rows)
    return tuple([found.get(x, 0) for x in states])


def forest_two(table, x, c, y, e):
    """Returns the sum over the forests with the roots c and e in which x leads to c and y to e."""
    check_states(table.size, (x, c, y, e), ((1, 3),))
    total = 0
    for part, rest in parts(table.size, (x, c), (y, e)):
        total = total + sum_within(table.rows, part, (c,)) * sum_within(table.rows, rest, (e,))
    return total


def listed_sum(table, roots, ends=()):
    """Returns the sum over the forests with these roots in which x leads to c for each pair (x, c) of `ends`."""
    chosen = roots_of(table.size, roots)
    check_ends(table.size, chosen, ends)
    if forest_number(table, chosen) > MOST_LISTED:
        raise TooMany(MOST_LISTED)
    total = 0
    for forest in forests(table, chosen):
        if all([lead(forest, x) == c for x, c in ends]):
            total = total + forest_weight(table, forest)
    return total


def determinant(rows):
    """Returns the determinant of k rows of k integers, 1 for no rows."""
    left = [list(row) for row in rows]
    sign = 1
    divisor = 1
    while left:
        places = [place for place, row in enumerate(left) if row[0] != 0]
        if not places:
            return 0
        top = left.pop(places[0])
        sign = -sign if places[0] % 2 == 1 else sign
        left = [reduced(row, top, divisor) for row in left]
        divisor = top[0]
    return sign * divisor


def reduced(row, top, divisor):
    """Returns the row behind its first entry, with the top row taken away so that the first entry becomes 0."""
    # Each entry is a minor of the first rows, so the first entry of the top row before divides without a rest.
    return [(top[0] * entry - row[0] * above) // divisor for entry, above in zip(row[1:], top[1:])]


def replaced_determinants(rows, column):
    """Returns for each place the determinant of the rows with the column put at this place."""
    places = range(len(rows))
    return [determinant([[*row[:at], entry, *row[at + 1:]] for row, entry in zip(rows, column)]) for at in places]


def out_rows(rates, part, left):
    """Returns the rows of the determinant whose value is the sum of the forests without the rows `left`."""
    return [[sum([rates[x][z] for z in part]) if x == y else -rates[x][y] for y in left] for x in left]


def sum_over(rates, roots):
    """Returns the sum of the weights of the forests with these roots on all states."""
    return sum_within(rates, list(range(len(rates))), roots)


def forest_number(table, roots):
    """Returns the number of forests with these roots."""
    ones = [[min(rate, 1) for rate in row] for row in table.rows]
    return sum_over(ones, roots)


def sum_within(rates, part, roots):
    """Returns the sum of the weights of the forests with these roots on the states of `part` alone."""
    left = [x for x in part if x not in roots]
    return determinant(out_rows(rates, part, left))


def parts(size, inner, outer):
    """Returns the list of all ways to part the states in two, with `inner` in the first part, `outer` in the second."""
    ways = [((), ())]
    for x in range(size):
        ways = [way for part, rest in ways for way in placed(x, part, rest, inner, outer)]
    return ways


def placed(x, part, rest, inner, outer):
    """Returns the ways to add x to one of the two parts."""
    ways = []
    if x not in outer:
        ways.append((part + (x,), rest))
    if x not in inner:
        ways.append((part, rest + (x,)))
    return ways


def check_ends(size, roots, ends):
    """Raises BadPair if `ends` is not a list or tuple of pairs of a state and a root."""
    if not is_list(ends):
        raise BadPair(-1)
    for place, pair in enumerate(ends):
        if not is_list(pair) or len(pair) != 2:
            raise BadPair(place)
        if not is_state(size, pair[0]) or not is_state(size, pair[1]) or pair[1] not in roots:
            raise BadPair(place)
