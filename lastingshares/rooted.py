"""The falls of one arrow and all arrows out of a state, and what two arrows do among the trees to one state."""

from lastingshares.falls import fall, fall_to, named_arrows
from lastingshares.numbers import check_states
from lastingshares.rates import check_sign, lifted_rates, lowered_rates, sign_beside
from lastingshares.verdicts import ratio_verdict


def falls_out(table, one, state, c):
    """Returns the list of the other arrows out of the state, each one beside its fall with the arrow to c."""
    arrow = named_arrows(table, (one,))[0]
    check_states(table.size, (state, c))
    return [(other, fall_to(table, arrow, other, c)) for other in others_out(table, arrow, state)]


def falls_out_total(table, one, state):
    """Returns the list of the other arrows out of the state, each one beside its fall with the arrow in all trees."""
    arrow = named_arrows(table, (one,))[0]
    check_states(table.size, (state,))
    return [(other, fall(table, arrow, other)) for other in others_out(table, arrow, state)]


def rooted_verdict(chain, one, other, c):
    """Returns the rooted word of the two arrows at c."""
    (a, b), (g, h) = rooted_arrows(chain, one, other, c)
    return rooted_word(ratio_verdict(chain, a, b, c, g), ratio_verdict(chain, g, h, c, a))


def rooted_rates(chain, one, other, c, sign):
    """Returns a Chain of the same shape in which the fall of the two arrows to c has the sign, or None."""
    (a, b), (g, h) = rooted_arrows(chain, one, other, c)
    check_sign(sign, (1, -1))
    first, second = ratio_verdict(chain, a, b, c, g), ratio_verdict(chain, g, h, c, a)
    word = rooted_word(first, second)
    if word != "both":
        return chain if word == ("contrary" if sign == 1 else "helpful") else None
    if first == "mixed":
        return signed_rates(chain, a, b, c, g, sign_beside(second, sign == 1))
    return signed_rates(chain, g, h, c, a, sign_beside(first, sign == 1))


def signed_rates(chain, a, b, c, e, sign):
    """Returns a Chain of the same shape in which the push of ab on c against e has the sign, 1 or -1, or None."""
    return lifted_rates(chain, a, b, c, e) if sign == 1 else lowered_rates(chain, a, b, c, e)


def others_out(table, arrow, state):
    """Returns the ascending list of the arrows out of the state other than this one."""
    return [(state, y) for y in table.heads(state) if (state, y) != arrow]


def rooted_arrows(chain, one, other, c):
    """Returns the two arrows, whose tails and c must be three different states."""
    first, second = named_arrows(chain, (one, other))
    check_states(chain.size, (c,))
    check_states(chain.size, (first[0], second[0], c), ((0, 1), (0, 2), (1, 2)))
    return (first, second)


def rooted_word(first, second):
    """Returns the rooted word that follows from the two ratio words."""
    if "still" in (first, second):
        return "none"
    if first == "mixed" and second == "mixed":
        return "open"
    if "mixed" in (first, second):
        return "both"
    return "contrary" if first == second else "helpful"
