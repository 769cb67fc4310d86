"""Tree sums and shares, trees that hold given arrows, drifts, and chains with wanted shares."""

from math import gcd

from lastingshares.chains import Chain, arrow_list
from lastingshares.errors import BadRow, NoTree
from lastingshares.numbers import check_states, common_multiple, fraction, row_of
from lastingshares.sums import sum_over
from lastingshares.tables import scaled_rows


def tree_sum(table, x):
    """Returns the sum of the weights of the trees to x."""
    check_states(table.size, (x,))
    return sum_over(table.rows, (x,))


def tree_row(table):
    """Returns the tuple of the tree sums of all states."""
    return tuple([sum_over(table.rows, (x,)) for x in range(table.size)])


def tree_total(table):
    """Returns the sum of the weights of all trees."""
    return sum(tree_row(table))


def shares(table):
    """Returns the tuple of the shares of all states, fractions in lowest terms."""
    row = tree_row(table)
    total = sum(row)
    if total == 0:
        raise NoTree()
    return tuple([fraction(number, total) for number in row])


def lowest_row(table):
    """Returns the tree sums of all states, divided by their greatest common factor."""
    row = tree_row(table)
    if sum(row) == 0:
        raise NoTree()
    return divided(row)


def holding(table, arrows, x):
    """Returns the sum of the weights of the trees to x that have all these arrows."""
    check_states(table.size, (x,))
    return held_sum(table, arrow_list(table, arrows), x)


def holding_all(table, arrows):
    """Returns the sum of the weights of all trees that have all these arrows."""
    return held_total(table, arrow_list(table, arrows))


def drift(table, heights):
    """Returns the tuple of the drifts of the row at all states."""
    row = row_of(table.size, heights)
    return tuple([drift_at(table, row, x) for x in range(table.size)])


def with_shares(chain, row):
    """Returns a chain whose shares stand to each other as the row: the rates out of each state are multiplied."""
    wanted = row_of(chain.size, row)
    for place, entry in enumerate(wanted):
        if entry < 1:
            raise BadRow(place)
    common = common_multiple(wanted)
    factors = [number * (common // entry) for number, entry in zip(tree_row(chain), wanted)]
    return Chain(scaled_rows(chain, divided(factors)))


def held_sum(table, held, x):
    """Returns the sum of the weights of the trees to x that have all arrows of `held`."""
    tails = [a for a, _ in held]
    if x in tails or len(set(tails)) < len(tails):
        return 0
    heads = dict(held)
    rows = [kept_alone(row, heads[a]) if a in heads else row for a, row in enumerate(table.rows)]
    return sum_over(rows, (x,))


def held_total(table, held):
    """Returns the sum of the weights of all trees that have all arrows of `held`."""
    return sum([held_sum(table, held, x) for x in range(table.size)])


def kept_alone(row, head):
    """Returns the row of rates with 0 at all heads but this one."""
    return [rate if y == head else 0 for y, rate in enumerate(row)]


def drift_at(table, row, x):
    """Returns the sum of the rates out of x, each one times the rise of the row along its arrow."""
    return sum([rate * (height - row[x]) for rate, height in zip(table.rows[x], row)])


def divided(row):
    """Returns the row divided by the greatest common factor of its entries, not all of which are 0."""
    factor = 0
    for entry in row:
        factor = gcd(factor, entry)
    return tuple([entry // factor for entry in row])
