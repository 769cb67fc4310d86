"""Shapes of chains: states with one tree, hanging chains, and what shows that a chain does not hang."""

from lastingshares.numbers import check_states
from lastingshares.rings import rings_along
from lastingshares.walks import distances_to, is_gate, walks_along


def only_tree(chain, c):
    """Returns the tree to c if just one tree leads to c; otherwise None."""
    check_states(chain.size, (c,))
    tree = []
    for x in range(chain.size):
        entries = [c] if x == c else onward_heads(chain, x, c)
        # Two heads from which c is reached without coming back to x make two trees.
        if len(entries) != 1:
            return None
        tree.append(entries[0])
    return tuple(tree)


def onward_heads(table, x, c):
    """Returns the list of the second states of the walks from x to c, x unlike c."""
    distances = distances_to(table, c, (x,))
    return [head for head in table.heads(x) if head in distances]


def is_hanging(chain):
    """Returns True if just one tree leads to each state."""
    return all([only_tree(chain, c) is not None for c in range(chain.size)])


def crossing_rings(chain):
    """Returns the two least rings that share two or more states; None if there are none."""
    for ring in rings_along(chain):
        for other in rings_along(chain):
            if other != ring and shared_number(ring, other) >= 2:
                return (ring, other)
    return None


def shared_number(ring, other):
    """Returns the number of states that are in both rings."""
    return len([state for state in ring if state in other])


def second_walk(chain):
    """Returns the two least walks between the least pair of states that has two; None if none has."""
    for x, y in chain.pairs_of(chain.size):
        found = two_walks(chain, x, y)
        if found is not None:
            return found
    return None


def two_walks(table, x, y):
    """Returns the two least walks from x to y; None if there are fewer."""
    least = None
    for walk in walks_along(table, x, y):
        if least is not None:
            return (least, walk)
        least = walk
    return None


def ungated(chain, c):
    """Returns the least arrow ab with b no gate from a to c and a no gate from b to c; None if there is none."""
    check_states(chain.size, (c,))
    for a, b in chain:
        if not is_gate(chain, a, b, c) and not is_gate(chain, b, a, c):
            return (a, b)
    return None
