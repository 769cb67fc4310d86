"""What two arrows with different tails do among all trees for all rates."""

from lastingshares.chains import Chain
from lastingshares.errors import BadNumber
from lastingshares.falls import named_arrows
from lastingshares.numbers import check_states
from lastingshares.pushes import share_push
from lastingshares.rates import share_rates, sign_beside
from lastingshares.tables import scaled_rows
from lastingshares.verdicts import share_verdict
from lastingshares.walks import has_walk


def couple_walks(chain, one, other):
    """Returns whether the first arrow goes up and goes down, and whether the second one goes up and goes down."""
    (a, b), (g, h) = couple_arrows(chain, one, other)
    up, down = has_walk(chain, b, g, without=(a,)), has_walk(chain, a, g, without=(b,))
    return (up, down, has_walk(chain, h, a, without=(g,)), has_walk(chain, g, a, without=(h,)))


def couple_verdict(chain, one, other):
    """Returns the couple word of the two arrows."""
    (a, b), (g, h) = couple_arrows(chain, one, other)
    return couple_word(share_verdict(chain, a, b, g), share_verdict(chain, g, h, a))


def couple_rates(chain, one, other, word):
    """Returns a Chain of the same shape in which the two arrows are what the word says; None if there is none."""
    (a, b), (g, h) = couple_arrows(chain, one, other)
    if word not in ("contrary", "helpful"):
        raise BadNumber("word")
    first, second = share_verdict(chain, a, b, g), share_verdict(chain, g, h, a)
    alike = word == "contrary"
    if first == "mixed" and second == "mixed":
        return with_slow_tail(share_rates(chain, g, h, a, 1 if alike else -1), a, b, g)
    if first == "mixed":
        return share_rates(chain, a, b, g, sign_beside(second, alike))
    if second == "mixed":
        return share_rates(chain, g, h, a, sign_beside(first, alike))
    return chain if couple_word(first, second) == word else None


def couple_arrows(chain, one, other):
    """Returns the two arrows, whose tails must be different."""
    first, second = named_arrows(chain, (one, other))
    check_states(chain.size, (first[0], second[0]), ((0, 1),))
    return (first, second)


def couple_word(first, second):
    """Returns the couple word that follows from the share words of the two arrows on each other's tail."""
    if "mixed" in (first, second):
        return "both"
    return "contrary" if first == second else "helpful"


def with_slow_tail(chain, a, b, g):
    """Returns the chain with all rates but those out of a so much higher that ab lifts the share of g.

    The signs of all pushes on the share of a stay, because the rates out of a do not matter to them.
    """
    # The forests that part b, on its way to g, from the root a have one more of the higher rates than all others.
    number = abs(share_push(chain, a, b, g)) + 2
    return Chain(scaled_rows(chain, [1 if x == a else number for x in range(chain.size)]))
