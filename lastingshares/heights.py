"""Heights that show which sign a sum of passed costs has for all rates, and rates of each sign."""

from lastingshares.chains import with_fast
from lastingshares.passings import costs_of, passed
from lastingshares.rates import check_sign, levelled
from lastingshares.rings import ring_cost, rings_along, steps_round


def low_ring(chain, costs):
    """Returns the least ring whose cost is below 0; None if there is none."""
    lines = costs_of(chain.size, costs)
    for ring in rings_along(chain):
        if ring_cost(lines, ring) < 0:
            return ring
    return None


def ring_heights(chain, costs):
    """Returns the least cost of a walk from 0 to each state, as a tuple; None if some ring has a cost below 0."""
    lines = costs_of(chain.size, costs)
    heights = least_costs(chain, lines)
    if any([lines[a][b] < heights[b] - heights[a] for a, b in chain]):
        return None
    return heights


def even_heights(chain, costs):
    """Returns the heights with 0 at state 0 that rise along each arrow by its cost, as a tuple; None if none do."""
    lines = costs_of(chain.size, costs)
    heights = least_costs(chain, lines)
    if any([lines[a][b] != heights[b] - heights[a] for a, b in chain]):
        return None
    return heights


def sum_verdict(chain, costs):
    """Returns the word of the sum of the passed costs."""
    lines = costs_of(chain.size, costs)
    return ring_word(ring_heights(chain, opposite(lines)) is None, ring_heights(chain, lines) is None)


def sum_rates(chain, costs, sign):
    """Returns a Chain of the same shape in which the sum of the passed costs has the sign; None if there is none."""
    lines = costs_of(chain.size, costs)
    check_sign(sign, (1, 0, -1))
    above, below = ring_led(chain, opposite(lines)), ring_led(chain, lines)
    if sign != 0:
        return above if sign == 1 else below
    return levelled(chain, above, below, lambda rates: passed(rates, lines))


def ring_word(above, below):
    """Returns the word of an integer that is above 0 at some rates or not, and below 0 at some rates or not."""
    if above and below:
        return "mixed"
    if above:
        return "above"
    return "below" if below else "still"


def opposite(lines):
    """Returns the costs with the opposite signs, as a tuple of tuples."""
    return tuple([tuple([-cost for cost in line]) for line in lines])


def least_costs(chain, lines):
    """Returns the least cost of a way from 0 to each state with fewer arrows than there are states, as a tuple."""
    costs = {0: 0}
    for _ in range(chain.size - 1):
        costs = one_arrow_more(chain, lines, costs)
    return tuple([costs[x] for x in range(chain.size)])


def one_arrow_more(chain, lines, costs):
    """Returns the least costs of the states to which ways lead that may be longer by one arrow than those so far."""
    found = {x: costs[x] for x in costs}
    for a, b in chain:
        if a in costs:
            cost = costs[a] + lines[a][b]
            found[b] = min(found.get(b, cost), cost)
    return found


def ring_led(chain, lines):
    """Returns rates at which the sum of the passed costs is below 0; None if no ring has a cost below 0."""
    ring = low_ring(chain, lines)
    if ring is None:
        return None
    # What is passed is a sum over ways to take one arrow out of each state. Only those with this ring have all of its
    # arrows, and the rate outweighs the number of the other ways and the most that their rings can cost.
    number = chain.size * max([abs(cost) for line in lines for cost in line]) + 1
    for x in range(chain.size):
        number = number * len(chain.heads(x))
    return with_fast(chain, steps_round(ring), number)
