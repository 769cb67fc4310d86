"""Pushes: what a faster arrow does to ratios, shares and means."""

from lastingshares.comings import coming_row
from lastingshares.errors import NoTree
from lastingshares.longs import long_row
from lastingshares.numbers import check_states, row_of
from lastingshares.sums import forest_two, parts, sum_within
from lastingshares.trees import tree_row


def push(table, a, b, c, e):
    """Returns the push of ab on c against e."""
    check_states(table.size, (a, b, c, e), ((0, 1), (2, 3)))
    row = coming_row(table, c, e)
    return row[b] - row[a]


def push_rows(table, c, e):
    """Returns the pushes of all pairs ab on c against e, as a tuple of rows: entry b of row a."""
    check_states(table.size, (c, e), ((0, 1),))
    row = coming_row(table, c, e)
    return tuple([tuple([row[b] - row[a] for b in range(table.size)]) for a in range(table.size)])


def lifting(table, a, b, c, e):
    """Returns the weight of the forests with the roots c and e in which b leads to c and a to e."""
    check_states(table.size, (a, b, c, e), ((0, 1), (2, 3)))
    return forest_two(table, b, c, a, e)


def lowering(table, a, b, c, e):
    """Returns the weight of the forests with the roots c and e in which b leads to e and a to c."""
    check_states(table.size, (a, b, c, e), ((0, 1), (2, 3)))
    return forest_two(table, a, c, b, e)


def share_push(table, a, b, c):
    """Returns the push of ab on the share of c."""
    check_states(table.size, (a, b, c), ((0, 1),))
    row = long_row(table, c)
    return row[a] - row[b]


def share_pushes(table, a, b):
    """Returns the tuple of the pushes of ab on the shares of all states."""
    check_states(table.size, (a, b), ((0, 1),))
    return tuple([share_push(table, a, b, c) for c in range(table.size)])


def mean_push(table, a, b, row):
    """Returns the push of ab on the mean of the row."""
    check_states(table.size, (a, b), ((0, 1),))
    entries = row_of(table.size, row)
    return sum([entry * number for entry, number in zip(entries, share_pushes(table, a, b))])


def parting(table, a, b):
    """Returns the weight of all forests with exactly two roots that part a from b."""
    check_states(table.size, (a, b), ((0, 1),))
    total = 0
    for part, rest in parts(table.size, (a,), (b,)):
        total = total + total_within(table.rows, part) * total_within(table.rows, rest)
    return total


def gainers(table, a, b):
    """Returns the tuple of all states, those with the greater gain by ab first."""
    check_states(table.size, (a, b), ((0, 1),))
    row = tree_row(table)
    if 0 in row:
        raise NoTree()
    common = 1
    for number in row:
        common = common * number
    gains = [common // number * gain for number, gain in zip(row, share_pushes(table, a, b))]
    return tuple([c for _, c in sorted([(-gain, c) for c, gain in enumerate(gains)])])


def total_within(rates, part):
    """Returns the sum of the weights of all trees on the states of `part` alone."""
    return sum([sum_within(rates, part, (x,)) for x in part])
