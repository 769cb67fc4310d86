"""What a step and a round cost in the mean."""

from lastingshares.errors import NoTree
from lastingshares.heights import even_heights, sum_rates
from lastingshares.numbers import check_fraction, check_states, fraction, is_less
from lastingshares.passings import costs_of, passed, visit_row, visits
from lastingshares.rings import ring_cost, rings_along
from lastingshares.walks import shortest_walk


def step_mean(table, costs):
    """Returns the mean cost of a step, a fraction in lowest terms."""
    lines = costs_of(table.size, costs)
    # Each step goes out of one state, so all visits together are all steps.
    return defined_mean(passed(table, lines), sum(visit_row(table)))


def ring_means(chain, costs):
    """Returns the least and the greatest ring mean, fractions in lowest terms, as a tuple."""
    lines = costs_of(chain.size, costs)
    means = [fraction(ring_cost(lines, ring), len(ring)) for ring in rings_along(chain)]
    low = high = means[0]
    for mean in means:
        if is_less(mean, low):
            low = mean
        if is_less(high, mean):
            high = mean
    return (low, high)


def rates_with_mean(chain, costs, u, v):
    """Returns a Chain of the same shape in which the mean cost of a step is u : v; None if there is none."""
    lines = costs_of(chain.size, costs)
    check_fraction(u, v)
    off = [[0 if x == y else v * cost - u for y, cost in enumerate(line)] for x, line in enumerate(lines)]
    return sum_rates(chain, off, 0)


def round_mean(table, x, costs):
    """Returns the mean cost of a round from x, a fraction in lowest terms."""
    check_states(table.size, (x,))
    lines = costs_of(table.size, costs)
    return defined_mean(passed(table, lines), visits(table, x))


def round_cost(chain, x, costs):
    """Returns the mean cost of a round from x if it is the same for all rates; otherwise None."""
    check_states(chain.size, (x,))
    lines = costs_of(chain.size, costs)
    # If all rings that meet x have one cost, it is the cost of this one.
    cost = ring_cost(lines, shortest_walk(chain, chain.heads(x)[0], x))
    off = [[0 if a == b else k - (cost if a == x else 0) for b, k in enumerate(line)] for a, line in enumerate(lines)]
    return None if even_heights(chain, off) is None else cost


def defined_mean(number, times):
    """Returns the fraction number : times; it is not defined if the second one is 0."""
    if times == 0:
        raise NoTree()
    return fraction(number, times)
