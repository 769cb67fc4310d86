"""Lifting and lowering walks, and the forests that are grown from walks."""

from lastingshares.errors import BadPair
from lastingshares.forests import roots_of
from lastingshares.numbers import check_states, is_list, is_state
from lastingshares.parted import parted_walks


def lifting_walks(chain, a, b, c, e):
    """Returns parted walks from b to c and from a to e; None if there are none."""
    check_states(chain.size, (a, b, c, e), ((0, 1), (2, 3)))
    return parted_walks(chain, b, c, a, e)


def lowering_walks(chain, a, b, c, e):
    """Returns parted walks from b to e and from a to c; None if there are none."""
    check_states(chain.size, (a, b, c, e), ((0, 1), (2, 3)))
    return parted_walks(chain, b, e, a, c)


def grown(chain, roots, walks):
    """Returns the grown forest of the roots and the walks."""
    chosen = roots_of(chain.size, roots)
    check_walks(chain, chosen, walks)
    return filled(chain, laid_entries(chosen, walks))


def lifting_forest(chain, a, b, c, e):
    """Returns the forest grown from the roots c and e and the lifting walks; None if there are none."""
    walks = lifting_walks(chain, a, b, c, e)
    return None if walks is None else grown(chain, (c, e), walks)


def lowering_forest(chain, a, b, c, e):
    """Returns the forest grown from the roots c and e and the lowering walks; None if there are none."""
    walks = lowering_walks(chain, a, b, c, e)
    return None if walks is None else grown(chain, (c, e), walks)


def check_walks(chain, roots, walks):
    """Raises BadPair if the argument is not a list or tuple of walks that end at roots."""
    if not is_list(walks):
        raise BadPair(-1)
    for place, walk in enumerate(walks):
        if not is_walk(chain, walk) or walk[-1] not in roots:
            raise BadPair(place)


def is_walk(chain, thing):
    """Returns True if the argument is a list or tuple of states that is a walk."""
    if not is_list(thing) or len(thing) == 0:
        return False
    for place, state in enumerate(thing):
        if not is_state(chain.size, state) or state in thing[:place]:
            return False
    return all([chain.rows[x][y] > 0 for x, y in zip(thing, thing[1:])])


def laid_entries(roots, walks):
    """Returns the entries of the roots, and of the states along the walks, as a dict."""
    entries = {root: root for root in roots}
    for walk in walks:
        for x, y in zip(walk, walk[1:]):
            if x in entries:
                break
            entries[x] = y
    return entries


def filled(chain, entries):
    """Returns the forest with these entries, in which each other state goes on towards a state that has one."""
    # In each turn just the states at the next distance get their entry.
    for _ in range(chain.size):
        heads = {x: laid_heads(chain, x, entries) for x in range(chain.size) if x not in entries}
        near = {x: heads[x][0] for x in heads if heads[x]}
        entries = {**entries, **near}
    return tuple([entries[x] for x in range(chain.size)])


def laid_heads(chain, x, entries):
    """Returns the ascending list of the heads of the arrows from x that have an entry."""
    return [y for y in chain.heads(x) if y in entries]
