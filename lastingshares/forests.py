"""Forests: one arrow out of each state that is no root, and no ring."""

from lastingshares.errors import BadForest, BadSet
from lastingshares.numbers import check_states, is_list, is_state, states_of


def forests(table, roots):
    """Yields all forests with these roots, ascending."""
    chosen = roots_of(table.size, roots)
    choices = tuple([(x,) if x in chosen else table.heads(x) for x in range(table.size)])
    yield from forests_from(choices, chosen, 0)


def trees(table, x):
    """Returns the ascending list of all trees to x."""
    check_states(table.size, (x,))
    roots = (x,)
    return list(forests(table, roots))


def forest_of(table, thing, roots):
    """Returns a forest with these roots as a tuple."""
    chosen = roots_of(table.size, roots)
    if not is_list(thing) or len(thing) != table.size:
        raise BadForest(-1)
    for x, entry in enumerate(thing):
        if not is_entry(table, x, entry, chosen):
            raise BadForest(x)
    if not all([root in chosen for root in lead_row(thing)]):
        raise BadForest(-2)
    return tuple(thing)


def lead(forest, x):
    """Returns the root to which x leads."""
    check_states(len(forest), (x,))
    # No state is further from its root than this many arrows; a root stays where it is.
    for _ in forest:
        x = forest[x]
    return x


def lead_row(forest):
    """Returns the tuple of the roots to which the states lead."""
    return tuple([lead(forest, x) for x in range(len(forest))])


def roots_in(forest):
    """Returns the ascending tuple of the roots of the forest."""
    return tuple([x for x, entry in enumerate(forest) if entry == x])


def forest_arrows(forest):
    """Returns the ascending list of the arrows of the forest."""
    return [(x, entry) for x, entry in enumerate(forest) if entry != x]


def forest_weight(table, forest):
    """Returns the product of the rates of the forest's arrows."""
    weight = 1
    for x, y in forest_arrows(forest):
        weight = weight * table.rows[x][y]
    return weight


def roots_of(size, thing):
    """Returns a set of at least one state as an ascending tuple."""
    roots = states_of(size, thing)
    if len(roots) == 0:
        raise BadSet(-2)
    return roots


def is_entry(table, x, entry, roots):
    """Returns True if a forest with these roots may have this entry at x."""
    if not is_state(table.size, entry):
        return False
    return entry == x if x in roots else table.rows[x][entry] > 0


def forests_from(choices, roots, x):
    """Yields all forests in which each state from x on takes one of its choices, ascending."""
    if x == len(choices):
        yield tuple([choice[0] for choice in choices])
    else:
        for entry in choices[x]:
            fewer = choices[:x] + ((entry,),) + choices[x + 1:]
            # Only choices that can be completed are tried, so each try ends in a forest.
            if all_lead(fewer, roots):
                after = x + 1
                yield from forests_from(fewer, roots, after)


def all_lead(choices, roots):
    """Returns True if each state can come to one of the roots along the choices."""
    reached = list(roots)
    left = [x for x in range(len(choices)) if x not in reached]
    while left:
        near = [x for x in left if any([y in reached for y in choices[x]])]
        if not near:
            return False
        reached = reached + near
        left = [x for x in left if x not in near]
    return True
