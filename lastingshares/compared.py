"""Two tables compared: the gaps between them, and the terms of the changed pairs whose sums they are."""

from lastingshares.comings import coming_row
from lastingshares.errors import OtherSize
from lastingshares.longs import long_row, weighted_longs
from lastingshares.numbers import check_states, row_of
from lastingshares.sums import forest_row
from lastingshares.trees import tree_row, tree_sum


def two_sized(old, new):
    """Returns the number of states of both tables."""
    if old.size != new.size:
        raise OtherSize(new.size)
    return old.size


def changed_pairs(old, new):
    """Returns the ascending list of the pairs whose rates differ."""
    pairs = old.pairs_of(two_sized(old, new))
    return [(a, b) for a, b in pairs if old.rows[a][b] != new.rows[a][b]]


def ratio_gap(old, new, c, e):
    """Returns the ratio gap of c and e."""
    check_states(two_sized(old, new), (c, e), ((0, 1),))
    before, after = tree_row(old), tree_row(new)
    return after[c] * before[e] - after[e] * before[c]


def ratio_terms(old, new, c, e):
    """Returns the list of the terms of the ratio gap."""
    check_states(two_sized(old, new), (c, e), ((0, 1),))
    factors = dict(enumerate(tree_row(new)))
    return changed_terms(old, new, factors, coming_row(old, c, e))


def share_gap(old, new, c):
    """Returns the share gap of c."""
    check_states(two_sized(old, new), (c,))
    before, after = tree_row(old), tree_row(new)
    return after[c] * sum(before) - before[c] * sum(after)


def mean_gap(old, new, row):
    """Returns the mean gap of the row."""
    entries = row_of(two_sized(old, new), row)
    before, after = tree_row(old), tree_row(new)
    old_sum = sum([entry * number for entry, number in zip(entries, before)])
    new_sum = sum([entry * number for entry, number in zip(entries, after)])
    return new_sum * sum(before) - old_sum * sum(after)


def mean_terms(old, new, row):
    """Returns the list of the terms of the mean gap."""
    entries = row_of(two_sized(old, new), row)
    factors = dict(enumerate(tree_row(new)))
    return changed_terms(old, new, factors, negated(weighted_longs(old, entries)))


def chance_gap(old, new, x, c, e):
    """Returns the chance gap of c and e at x."""
    check_states(two_sized(old, new), (x, c, e), ((1, 2),))
    before, after = coming_row(old, c, e), coming_row(new, c, e)
    return before[c] * after[x] - after[c] * before[x]


def chance_terms(old, new, x, c, e):
    """Returns the list of the terms of the chance gap; a pair out of c or e has none."""
    size = two_sized(old, new)
    check_states(size, (x, c, e), ((1, 2),))
    factors = {a: forest_row(new, a, (c, e))[x] for a in range(size) if a not in (c, e)}
    return changed_terms(old, new, factors, coming_row(old, c, e))


def long_gap(old, new, x, c):
    """Returns the long gap of c at x."""
    check_states(two_sized(old, new), (x, c))
    return tree_sum(new, c) * long_row(old, c)[x] - tree_sum(old, c) * long_row(new, c)[x]


def long_terms(old, new, x, c):
    """Returns the list of the terms of the long gap; a pair out of c has none."""
    size = two_sized(old, new)
    check_states(size, (x, c))
    factors = {a: coming_row(new, a, c)[x] for a in range(size) if a != c}
    return changed_terms(old, new, factors, negated(long_row(old, c)))


def changed_terms(old, new, factors, heights):
    """Returns for each changed pair with a factor at its tail (a, b, factor * raise * what the heights rise by)."""
    terms = []
    for a, b in changed_pairs(old, new):
        if a in factors:
            change = new.rows[a][b] - old.rows[a][b]
            terms.append((a, b, factors[a] * change * (heights[b] - heights[a])))
    return terms


def negated(row):
    """Returns the row with the opposite signs; a push on a share is what the longs fall by along a pair."""
    return [-entry for entry in row]
