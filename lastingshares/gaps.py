"""Detours, the way there and back, and which of two states is come to sooner."""

from lastingshares.chains import with_fast
from lastingshares.comings import coming_row, pair_sum
from lastingshares.errors import NoTree
from lastingshares.longs import long
from lastingshares.numbers import check_states, fraction
from lastingshares.trees import tree_sum, tree_total
from lastingshares.walks import shortest_walk

STEP = 10


def detour_sum(table, x, y, z):
    """Returns the detour sum of x, y, z."""
    check_states(table.size, (x, y, z), ((1, 2),))
    return tree_total(table) * coming_row(table, z, y)[x]


def detour(table, x, y, z):
    """Returns the detour by y from x to z, a fraction in lowest terms."""
    check_states(table.size, (x, y, z), ((1, 2),))
    return fraction(detour_sum(table, x, y, z), both_trees(table, y, z))


def there_and_back(table, y, z):
    """Returns the mean time from y to z plus that from z to y, a fraction in lowest terms."""
    check_states(table.size, (y, z))
    both = both_trees(table, y, z)
    if y == z:
        return (0, 1)
    return fraction(tree_total(table) * pair_sum(table, y, z), both)


def sooner(chain, x, y, z):
    """Returns a Chain of the same arrows in which y is later than z from x; None if y is a gate from x to z."""
    check_states(chain.size, (x, y, z), ((1, 2),))
    walk = shortest_walk(chain, x, z, without=(y,))
    if walk is None:
        return None
    # The faster this walk, the sooner it comes to z; but from z to y the mean time never falls below some bound.
    arrows = list(zip(walk, walk[1:]))
    rate = 1
    found = with_fast(chain, arrows, rate)
    while not is_later(found, x, y, z):
        rate = rate * STEP
        found = with_fast(chain, arrows, rate)
    return found


def both_trees(table, y, z):
    """Returns the tree sum of y times that of z; it must not be 0."""
    both = tree_sum(table, y) * tree_sum(table, z)
    if both == 0:
        raise NoTree()
    return both


def is_later(chain, x, y, z):
    """Returns True if the mean time from x to y is greater than that from x to z."""
    return long(chain, x, y) * tree_sum(chain, z) > long(chain, x, z) * tree_sum(chain, y)
