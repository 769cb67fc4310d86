"""Rings, their weights and their costs."""

from lastingshares.errors import BadRing, NotArrow, TooMany
from lastingshares.numbers import check_states, is_list, is_state
from lastingshares.walks import walks_past


def rings_along(table):
    """Yields all rings, ascending."""
    for least in range(table.size):
        lower = tuple(range(least))
        for head in table.heads(least):
            if head > least:
                for walk in walks_past(table, head, least, lower):
                    yield (least,) + walk[:-1]


def rings(table, *, limit=2000):
    """Returns the ascending list of all rings, at most `limit`."""
    found = []
    for ring in rings_along(table):
        if len(found) == limit:
            raise TooMany(limit)
        found.append(ring)
    return found


def rings_with(table, x, y):
    """Returns the ascending list of the rings that have the arrow xy."""
    check_states(table.size, (x, y), ((0, 1),))
    if table.rows[x][y] == 0:
        raise NotArrow(x, y)
    found = list(walks_past(table, y, x, ()))
    return sorted([from_least(walk) for walk in found])


def ring_of(table, thing):
    """Returns a ring, given from any of its states on, as the tuple that begins with its least state."""
    if not is_list(thing) or len(thing) < 2:
        raise BadRing(-1)
    for place, state in enumerate(thing):
        if not is_state(table.size, state) or state in thing[:place]:
            raise BadRing(place)
    for place, (x, y) in enumerate(steps_round(thing)):
        if table.rows[x][y] == 0:
            raise BadRing(place)
    return from_least(thing)


def ring_weight(table, ring):
    """Returns the product of the rates of the ring's arrows."""
    weight = 1
    for x, y in steps_round(ring_of(table, ring)):
        weight = weight * table.rows[x][y]
    return weight


def ring_cost(costs, ring):
    """Returns the sum of the costs of the ring's arrows."""
    return sum([costs[x][y] for x, y in steps_round(ring)])


def from_least(ring):
    """Returns the ring as the tuple that begins with its least state."""
    place = ring.index(min(ring))
    return tuple(ring[place:]) + tuple(ring[:place])


def steps_round(ring):
    """Returns the list of the pairs along which the ring goes, the one back to its first state last."""
    return list(zip(ring, list(ring[1:]) + [ring[0]]))
