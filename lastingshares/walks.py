"""Walks between two states, and the gates that all of them meet."""

from lastingshares.numbers import check_states, states_of


def has_walk(table, x, y, *, without=()):
    """Returns True if a walk from x to y meets no state of the set `without`."""
    check_states(table.size, (x, y))
    barred = states_of(table.size, without)
    return x in distances_to(table, y, barred)


def shortest_walk(table, x, y, *, without=()):
    """Returns the least one of the shortest walks past `without`; None if there is none."""
    check_states(table.size, (x, y))
    barred = states_of(table.size, without)
    distances = distances_to(table, y, barred)
    if x not in distances:
        return None
    walk = [x]
    for distance in reversed(range(distances[x])):
        nearer = [head for head in table.heads(walk[-1]) if distances.get(head, -1) == distance]
        walk.append(nearer[0])
    return tuple(walk)


def walks_along(table, x, y):
    """Yields all walks from x to y, ascending."""
    check_states(table.size, (x, y))
    yield from walks_past(table, x, y, ())


def walks(table, x, y):
    """Returns the ascending list of all walks from x to y."""
    return list(walks_along(table, x, y))


def gates(table, x, y):
    """Returns all gates from x to y in the order of the walks; None if there is no walk."""
    walk = shortest_walk(table, x, y)
    if walk is None:
        return None
    return tuple([state for state in walk if is_gate(table, x, state, y)])


def is_gate(table, x, b, y):
    """Returns True if every walk from x to y meets b, also if there is no walk."""
    check_states(table.size, (x, b, y))
    return x not in distances_to(table, y, (b,))


def distances_to(table, y, barred):
    """Returns the least number of arrows to y for each state from which a walk past `barred` leads to y."""
    distances = {}
    layer = [] if y in barred else [y]
    distance = 0
    while layer:
        for near in layer:
            distances[near] = distance
        before = [tail for state in layer for tail in table.tails(state)]
        layer = sorted({tail for tail in before if tail not in distances and tail not in barred})
        distance += 1
    return distances


def walks_past(table, x, y, barred):
    """Yields all walks from x to y that meet no state of `barred`, ascending; x is not one of these."""
    if x == y:
        yield (x,)
    else:
        behind = barred + (x,)
        # Only heads from which y can still be reached are tried, so each try ends in a walk.
        distances = distances_to(table, y, behind)
        for head in table.heads(x):
            if head in distances:
                for walk in walks_past(table, head, y, behind):
                    yield (x,) + walk
