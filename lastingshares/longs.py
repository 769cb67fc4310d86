"""How long a thing needs to come to a state."""

from lastingshares.errors import NoTree
from lastingshares.numbers import check_states, fraction
from lastingshares.sums import out_rows, replaced_determinants, sum_over
from lastingshares.trees import tree_sum


def long_row(table, c):
    """Returns the tuple of the longs M(x,c) of all states x."""
    check_states(table.size, (c,))
    states = list(range(table.size))
    left = [x for x in states if x != c]
    # The drift of the row is -T_c at each state unlike c, and its entry at c is 0; this fixes the others.
    rows = out_rows(table.rows, states, left)
    found = dict(zip(left, replaced_determinants(rows, [1] * len(left))))
    return tuple([found.get(x, 0) for x in states])


def long(table, x, c):
    """Returns the long M(x,c)."""
    check_states(table.size, (x, c))
    return long_row(table, c)[x]


def mean_time(table, x, c):
    """Returns the mean time from x to c, a fraction in lowest terms."""
    check_states(table.size, (x, c))
    return time_row(table, c)[x]


def time_row(table, c):
    """Returns the tuple of the mean times from all states to c."""
    total = tree_sum(table, c)
    if total == 0:
        raise NoTree()
    return tuple([fraction(number, total) for number in long_row(table, c)])


def two_root_sum(table):
    """Returns the sum of the weights of all forests with exactly two roots."""
    return sum([sum_over(table.rows, (c, e)) for c, e in table.pairs_of(table.size) if c < e])


def weighted_longs(table, row):
    """Returns for each state x the sum over all states c of the entry of c times the long M(x,c)."""
    longs = [long_row(table, c) for c in range(table.size)]
    return tuple([sum([entry * found[x] for entry, found in zip(row, longs)]) for x in range(table.size)])
