"""What a faster arrow does to means and to the shares of lots for all rates."""

from lastingshares.numbers import check_states, lot_of, row_of
from lastingshares.pairings import lifting_forest, lifting_walks
from lastingshares.pushes import mean_push
from lastingshares.rates import check_sign, forested, levelled
from lastingshares.sums import forest_number
from lastingshares.verdicts import word_of


def linked(chain, a, b):
    """Returns the ascending list of the pairs (c, e) with parted walks from b to c and from a to e."""
    check_states(chain.size, (a, b), ((0, 1),))
    return [(c, e) for c, e in chain.pairs_of(chain.size) if is_linked(chain, a, b, c, e)]


def mean_verdict(chain, a, b, row):
    """Returns the mean word of ab on the row."""
    check_states(chain.size, (a, b), ((0, 1),))
    entries = row_of(chain.size, row)
    lifts = falling_link(chain, a, b, entries) is not None
    lowers = falling_link(chain, b, a, entries) is not None
    return word_of(lifts, lowers)


def mean_rates(chain, a, b, row, sign):
    """Returns a Chain of the same shape in which the push of ab on the mean of the row has the sign, or None."""
    check_states(chain.size, (a, b), ((0, 1),))
    entries = row_of(chain.size, row)
    check_sign(sign, (1, 0, -1))
    above, below = mean_led(chain, a, b, entries), mean_led(chain, b, a, entries)
    if sign != 0:
        return above if sign == 1 else below
    return levelled(chain, above, below, lambda rates: mean_push(rates, a, b, entries))


def lot_verdict(chain, a, b, lot):
    """Returns the lot word of ab on the lot."""
    check_states(chain.size, (a, b), ((0, 1),))
    states = lot_of(chain.size, lot)
    return mean_verdict(chain, a, b, [1 if x in states else 0 for x in range(chain.size)])


def lot_lowerer(chain, lot):
    """Returns the least arrow into the lot whose lot word is "mixed"; None if there is none."""
    states = lot_of(chain.size, lot)
    for a, b in chain:
        if a not in states and b in states and lot_verdict(chain, a, b, states) == "mixed":
            return (a, b)
    return None


def is_linked(chain, a, b, c, e):
    """Returns True if parted walks lead from b to c and from a to e."""
    return lifting_walks(chain, a, b, c, e) is not None


def falling_link(chain, a, b, row):
    """Returns the least pair (c, e) that is linked by ab and has a greater entry at c; None if there is none."""
    for c, e in chain.pairs_of(chain.size):
        if row[c] > row[e] and is_linked(chain, a, b, c, e):
            return (c, e)
    return None


def mean_led(chain, a, b, row):
    """Returns rates at which the push of ab on the mean of the row is above 0; None if there are none."""
    link = falling_link(chain, a, b, row)
    if link is None:
        return None
    c, e = link
    many = sum([forest_number(chain, (x, y)) for x, y in chain.pairs_of(chain.size) if x < y])
    return forested(chain, lifting_forest(chain, a, b, c, e), (max(row) - min(row)) * many + 1)
