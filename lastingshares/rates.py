"""Rates of one shape that show what a faster arrow can do to a ratio or a share."""

from lastingshares.chains import Chain, with_fast
from lastingshares.errors import BadForest, BadNumber
from lastingshares.forests import forest_arrows
from lastingshares.numbers import check_number, check_states, is_int, is_list, is_state
from lastingshares.pairings import grown, lifting_forest, lowering_forest
from lastingshares.pushes import push, share_push
from lastingshares.sums import forest_number
from lastingshares.walks import shortest_walk


def forested(chain, forest, number):
    """Returns the Chain of the same shape with this rate at the arrows of the forest and 1 at the others."""
    check_entries(chain, forest)
    check_number("number", number, 1)
    return with_fast(chain, forest_arrows(forest), number)


def lifted_rates(chain, a, b, c, e):
    """Returns a Chain of the same shape in which the push of ab on c against e is above 0; None if there is none."""
    return led_by(chain, lifting_forest(chain, a, b, c, e), (c, e))


def lowered_rates(chain, a, b, c, e):
    """Returns a Chain of the same shape in which the push of ab on c against e is below 0; None if there is none."""
    return led_by(chain, lowering_forest(chain, a, b, c, e), (c, e))


def level_rates(chain, a, b, c, e):
    """Returns a Chain of the same shape in which the push of ab on c against e is 0; None if there is none."""
    above, below = lifted_rates(chain, a, b, c, e), lowered_rates(chain, a, b, c, e)
    return levelled(chain, above, below, lambda rates: push(rates, a, b, c, e))


def share_rates(chain, a, b, c, sign):
    """Returns a Chain of the same shape in which the push of ab on the share of c has the sign; None if none has."""
    check_states(chain.size, (a, b, c), ((0, 1),))
    check_sign(sign, (1, 0, -1))
    above, below = share_led(chain, a, b, c), share_led(chain, b, a, c)
    if sign != 0:
        return above if sign == 1 else below
    return levelled(chain, above, below, lambda rates: share_push(rates, a, b, c))


def check_entries(chain, forest):
    """Raises BadForest if an entry of the forest is neither its own state nor the head of an arrow from it."""
    if not is_list(forest) or len(forest) != chain.size:
        raise BadForest(-1)
    for x, entry in enumerate(forest):
        if not is_state(chain.size, entry) or (entry != x and chain.rows[x][entry] == 0):
            raise BadForest(x)


def check_sign(sign, signs):
    """Raises BadNumber("sign") if the sign is not one of these integers."""
    if not is_int(sign) or sign not in signs:
        raise BadNumber("sign")


def sign_beside(word, alike):
    """Returns the sign of the word, "lifts" or "lowers", if `alike` is True, otherwise the other sign."""
    return 1 if alike == (word == "lifts") else -1


def led_by(chain, forest, roots):
    """Returns rates at which the forest outweighs all others with these roots; None if there is no forest."""
    return None if forest is None else forested(chain, forest, forest_number(chain, roots) + 1)


def share_led(chain, a, b, c):
    """Returns rates at which the push of ab on the share of c is above 0; None if there are none."""
    walk = shortest_walk(chain, b, c, without=(a,))
    if walk is None:
        return None
    many = sum([forest_number(chain, (c, e)) for e in range(chain.size) if e != c])
    # With a as the other root, b leads to c and a does not.
    return forested(chain, grown(chain, (a, c), (walk,)), many + 1)


def levelled(chain, above, below, measure):
    """Returns a Chain of the same shape in which the measure is 0; None if there is none.

    The measure is above 0 at `above` and below 0 at `below`; None stands for no such rates. It moves evenly with the
    rates out of each state, and if all rates are multiplied by one number, its sign stays.
    """
    if above is None and below is None:
        return chain
    if above is None or below is None:
        return None
    last = after = above
    for x in range(chain.size):
        last = after
        after = with_row_of(last, below, x)
        if measure(after) <= 0:
            break
    # These two differ in the rates out of one state alone, so the measure is 0 where the two outweigh each other.
    high, low = measure(last), -measure(after)
    return after if low == 0 else last * low + after * high


def with_row_of(chain, other, x):
    """Returns the chain with the rates out of x that the other chain has."""
    return Chain(chain.rows[:x] + (other.rows[x],) + chain.rows[x + 1:])
