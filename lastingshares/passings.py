"""What is passed: costs times currents, ring by ring too, and visits of states."""

from lastingshares.carried import ring_sums
from lastingshares.chains import pair_list
from lastingshares.numbers import check_states, cost_rows
from lastingshares.rings import ring_cost
from lastingshares.trees import tree_row, tree_sum


def costs_of(size, thing):
    """Returns costs, `size` rows of `size` integers with 0 at each place (x, x), as a tuple of tuples."""
    return cost_rows(size, thing)


def pass_sum(table, costs):
    """Returns the sum of the costs of all pairs, each one times the current of its pair."""
    lines = costs_of(table.size, costs)
    return passed(table, lines)


def ring_passes(table, costs):
    """Returns the ascending list of all rings, each one with its cost and what it carries."""
    lines = costs_of(table.size, costs)
    return [(ring, ring_cost(lines, ring), number) for ring, number in ring_sums(table)]


def visits(table, x):
    """Returns the visits of x: its tree sum times the sum of its rates."""
    return tree_sum(table, x) * sum(table.rows[x])


def visit_row(table):
    """Returns the tuple of the visits of all states."""
    return tuple([number * sum(row) for number, row in zip(tree_row(table), table.rows)])


def counting(size, pairs):
    """Returns the costs with 1 at these pairs and 0 elsewhere."""
    counted = pair_list(size, pairs)
    states = range(size)
    return tuple([tuple([1 if (x, y) in counted else 0 for y in states]) for x in states])


def steps_into(size, x):
    """Returns the costs with 1 at all pairs into x and 0 elsewhere."""
    check_states(size, (x,))
    return counting(size, [(y, x) for y in range(size) if y != x])


def steps_from(size, x):
    """Returns the costs with 1 at all pairs out of x and 0 elsewhere."""
    check_states(size, (x,))
    return counting(size, [(x, y) for y in range(size) if y != x])


def passed(table, lines):
    """Returns the sum of the costs of all pairs, each one times the current of its pair; the costs are not checked."""
    costs_out = [sum([cost * rate for cost, rate in zip(line, row)]) for line, row in zip(lines, table.rows)]
    return sum([number * cost for number, cost in zip(tree_row(table), costs_out)])
