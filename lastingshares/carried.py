"""Currents, and what each ring carries."""

from lastingshares.numbers import check_states
from lastingshares.rings import ring_weight, rings, rings_with
from lastingshares.sums import sum_over
from lastingshares.tables import scaled_rows
from lastingshares.trees import tree_row, tree_sum


def current(table, x, y):
    """Returns the current of the pair xy: the tree sum of x times the rate."""
    check_states(table.size, (x, y), ((0, 1),))
    return tree_sum(table, x) * table.rows[x][y]


def current_rows(table):
    """Returns the currents of all pairs as a tuple of rows, with 0 at x in row x."""
    return scaled_rows(table, tree_row(table))


def ring_sums(table):
    """Returns the ascending list of all rings, each one beside what it carries."""
    return [carried_by(table, ring) for ring in rings(table)]


def ring_parts(table, x, y):
    """Returns the ascending list of the rings that have the arrow xy, each one beside what it carries."""
    return [carried_by(table, ring) for ring in rings_with(table, x, y)]


def carried_by(table, ring):
    """Returns the tuple of the ring and its weight times the sum of the forests whose roots are its states."""
    return (ring, ring_weight(table, ring) * sum_over(table.rows, ring))
