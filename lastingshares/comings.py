"""To which of two states a thing comes first."""

from lastingshares.errors import NoTree
from lastingshares.numbers import check_states, fraction, sign_of
from lastingshares.sums import forest_row, sum_over


def coming_row(table, c, e):
    """Returns for each state x the sum over the forests with the roots c and e in which x leads to c."""
    check_states(table.size, (c, e), ((0, 1),))
    others = (e,)
    return forest_row(table, c, others)


def pair_sum(table, c, e):
    """Returns the sum of the weights of the forests with the roots c and e."""
    check_states(table.size, (c, e), ((0, 1),))
    return sum_over(table.rows, (c, e))


def chance(table, x, c, e):
    """Returns the chance of c before e from x, a fraction in lowest terms."""
    check_states(table.size, (x, c, e), ((1, 2),))
    return chance_row(table, c, e)[x]


def chance_row(table, c, e):
    """Returns the tuple of the chances of c before e from all states."""
    row = possible_row(table, c, e)
    return tuple([fraction(number, row[c]) for number in row])


def likelier(table, a, b, c, e):
    """Returns 1, 0 or -1 as the chance of c before e from b is greater than, equal to or less than that from a."""
    check_states(table.size, (a, b, c, e), ((2, 3),))
    row = possible_row(table, c, e)
    return sign_of(row[b] - row[a])


def possible_row(table, c, e):
    """Returns the coming row of c against e, whose entry at c is the sum that divides; it must not be 0."""
    row = coming_row(table, c, e)
    if row[c] == 0:
        raise NoTree()
    return row
