"""Falls: whether two arrows are in a tree together less often or more often than by chance."""

from lastingshares.errors import BadPair, NotArrow
from lastingshares.numbers import check_states, is_pair
from lastingshares.pushes import push, share_push
from lastingshares.trees import held_sum, held_total


def fall_to(table, one, other, c):
    """Returns the fall of the two arrows among the trees to c."""
    first, second = named_arrows(table, (one, other))
    check_states(table.size, (c,))
    return fall_of([held_sum(table, held, c) for held in holdings(first, second)])


def fall(table, one, other):
    """Returns the fall of the two arrows among all trees."""
    first, second = named_arrows(table, (one, other))
    return fall_of([held_total(table, held) for held in holdings(first, second)])


def by_pushes(table, one, other, c):
    """Returns the product of the rates of the two arrows and of their pushes on c against each other's tail."""
    (a, b), (g, h) = named_arrows(table, (one, other))
    check_states(table.size, (c,))
    if c in (a, g):
        return 0
    return table.rows[a][b] * table.rows[g][h] * push(table, a, b, c, g) * push(table, g, h, c, a)


def by_shares(table, one, other):
    """Returns the product of the rates of the two arrows and of their pushes on the share of each other's tail."""
    (a, b), (g, h) = named_arrows(table, (one, other))
    return table.rows[a][b] * table.rows[g][h] * share_push(table, a, b, g) * share_push(table, g, h, a)


def named_arrows(table, things):
    """Returns the list of different arrows of the table that are arguments of their own."""
    pairs = []
    for place, thing in enumerate(things):
        if not is_pair(table.size, thing) or tuple(thing) in pairs:
            raise BadPair(place)
        pairs.append(tuple(thing))
    for x, y in pairs:
        if table.rows[x][y] == 0:
            raise NotArrow(x, y)
    return pairs


def holdings(first, second):
    """Returns what a tree may be asked to hold of two arrows: none, one, the other one, both."""
    return ((), (first,), (second,), (first, second))


def fall_of(sums):
    """Returns the fall from the sums of the trees that hold none, one, the other one and both of two arrows."""
    none, one, other, both = sums
    return one * other - none * both
