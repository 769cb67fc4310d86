"""Squares of pushes for many arrows, and the third sums of three arrows."""

from lastingshares.chains import arrow_list
from lastingshares.comings import coming_row
from lastingshares.errors import BadPair
from lastingshares.falls import named_arrows
from lastingshares.numbers import check_states
from lastingshares.sums import determinant
from lastingshares.trees import held_sum


def push_square(table, arrows, c):
    """Returns the push square of the arrows at c, a tuple of rows."""
    return square_of(table, square_arrows(table, arrows, c), c)


def square_sum(table, arrows, c):
    """Returns the product of the rates of the arrows times the determinant of their push square at c."""
    held = square_arrows(table, arrows, c)
    return rate_product(table, held) * determinant(square_of(table, held, c))


def rounds(table, one, other, third, c):
    """Returns the product of the rates of three arrows times the sum of their pushes in both rounds; 0 at a tail."""
    held = named_arrows(table, (one, other, third))
    check_states(table.size, (c,))
    if c in [a for a, _ in held]:
        return 0
    square = square_of(table, held, c)
    one_way_round = square[0][1] * square[1][2] * square[2][0]
    other_way_round = square[0][2] * square[2][1] * square[1][0]
    return rate_product(table, held) * (one_way_round + other_way_round)


def third_sum(table, one, other, third, c):
    """Returns the third sum of three arrows at c."""
    first, second, last = named_arrows(table, (one, other, third))
    check_states(table.size, (c,))
    none, whole = held_sum(table, (), c), held_sum(table, (first, second, last), c)
    singles = [held_sum(table, (arrow,), c) for arrow in (first, second, last)]
    others = [held_sum(table, pair, c) for pair in ((second, last), (first, last), (first, second))]
    mixed = sum([single * pair for single, pair in zip(singles, others)])
    return none * none * whole - none * mixed + 2 * singles[0] * singles[1] * singles[2]


def square_arrows(table, arrows, c):
    """Returns one or more arrows, none of which leaves c, as an ascending tuple."""
    held = arrow_list(table, arrows)
    if len(held) == 0:
        raise BadPair(-2)
    check_states(table.size, (c,))
    for place, arrow in enumerate(arrows):
        if arrow[0] == c:
            raise BadPair(place)
    return held


def square_of(table, held, c):
    """Returns the pushes of the arrows, row by row, on c against the tails of the arrows, column by column."""
    rows = [coming_row(table, c, g) for g, _ in held]
    return tuple([tuple([row[b] - row[a] for row in rows]) for a, b in held])


def rate_product(table, held):
    """Returns the product of the rates of the arrows."""
    product = 1
    for x, y in held:
        product = product * table.rows[x][y]
    return product
