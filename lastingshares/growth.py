"""How far one faster arrow takes each state, and a ratio while one rate runs."""

from lastingshares.comings import coming_row
from lastingshares.numbers import check_number, check_states, fraction
from lastingshares.trees import tree_sum
from lastingshares.walks import is_gate


def factor(chain, a, b, by, c):
    """Returns the factor of c if the rate of ab is raised by `by`, a fraction in lowest terms."""
    check_states(chain.size, (a, b, c), ((0, 1),))
    check_number("by", by, 1)
    new = chain.with_rate(a, b, chain.rows[a][b] + by)
    return fraction(tree_sum(new, c), tree_sum(chain, c))


def step_of(chain, a, b, c):
    """Returns "head", "tail" or "between" as the factor of c is that of b, that of a, or between them."""
    check_states(chain.size, (a, b, c), ((0, 1),))
    if is_gate(chain, a, b, c):
        return "head"
    return "tail" if is_gate(chain, b, a, c) else "between"


def run_ends(table, a, b, c, e):
    """Returns the parts of the ratio of c and e that do not grow with the rate of ab, and those that grow with it."""
    check_states(table.size, (a, b, c, e), ((0, 1), (0, 2), (0, 3), (2, 3)))
    rate = table.rows[a][b]
    grown_c, grown_e = coming_row(table, c, a)[b], coming_row(table, e, a)[b]
    starts = (tree_sum(table, c) - rate * grown_c, tree_sum(table, e) - rate * grown_e)
    return (starts, (grown_c, grown_e))


def rate_for(chain, a, b, c, e, u, v):
    """Returns the one rate of ab at which the ratio of c and e is u : v, a fraction; None if not just one is."""
    (start_c, start_e), (grown_c, grown_e) = run_ends(chain, a, b, c, e)
    check_number("u", u, 1)
    check_number("v", v, 1)
    missing = u * start_e - v * start_c
    growing = v * grown_c - u * grown_e
    # If the ratio does not move at all, these two are never above 0 together, nor below 0 together.
    return fraction(missing, growing) if missing * growing > 0 else None
