"""Tables of currents, even and balanced tables, net currents, and tables of weighted rings."""

from lastingshares.carried import current, current_rows
from lastingshares.errors import BadNumber, BadRing
from lastingshares.heights import ring_word
from lastingshares.numbers import check_states, is_int, is_list, is_size, is_state
from lastingshares.rings import steps_round
from lastingshares.shapes import onward_heads
from lastingshares.tables import Table


def current_table(table):
    """Returns the Table whose rates are the currents of the table."""
    return Table(current_rows(table))


def is_even(table):
    """Returns True if at each state the rates out of it and the rates into it have the same sum."""
    return all([sum(row) == sum([other[x] for other in table.rows]) for x, row in enumerate(table.rows)])


def is_balanced(table):
    """Returns True if the currents of each pair xy and of yx are equal."""
    found = current_table(table)
    return found == ~found


def net(table, x, y):
    """Returns the current of xy less that of yx."""
    return current(table, x, y) - current(table, y, x)


def net_verdict(chain, x, y):
    """Returns the word of the net current of xy."""
    check_states(chain.size, (x, y), ((0, 1),))
    return ring_word(is_passed_round(chain, x, y), is_passed_round(chain, y, x))


def of_rings(size, rings):
    """Returns the Table of these weighted rings."""
    if not is_size(size):
        raise BadNumber("size")
    check_weighted_rings(size, rings)
    rows = [[0] * size for _ in range(size)]
    for ring, weight in rings:
        for x, y in steps_round(ring):
            rows[x][y] = rows[x][y] + weight
    return Table(rows)


def is_passed_round(chain, x, y):
    """Returns True if some ring of three or more states has the arrow xy."""
    return chain.rows[x][y] > 0 and any([head != x for head in onward_heads(chain, y, x)])


def check_weighted_rings(size, rings):
    """Raises BadRing if the argument is not a list or tuple of weighted rings."""
    if not is_list(rings):
        raise BadRing(-1)
    for place, thing in enumerate(rings):
        if not is_weighted_ring(size, thing):
            raise BadRing(place)


def is_weighted_ring(size, thing):
    """Returns True if the argument is a list or tuple of a sequence of different states and a weight."""
    if not is_list(thing) or len(thing) != 2:
        return False
    ring, weight = thing
    if not is_list(ring) or len(ring) < 2 or not is_int(weight) or weight < 1:
        return False
    return all([is_state(size, state) and state not in ring[:place] for place, state in enumerate(ring)])
