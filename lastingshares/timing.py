"""What a faster arrow does to mean times and chances for all rates."""

from lastingshares.numbers import check_states
from lastingshares.verdicts import ratio_verdict, share_verdict
from lastingshares.walks import has_walk, is_gate

TIME_WORDS = {"lifts": "sooner", "lowers": "later", "mixed": "mixed"}


def time_verdict(chain, a, b, x, c):
    """Returns the time word of ab on the mean time from x to c."""
    check_states(chain.size, (a, b, x, c), ((0, 1),))
    if is_gate(chain, x, c, a):
        return "still"
    return TIME_WORDS[share_verdict(chain, a, b, c)]


def chance_verdict(chain, a, b, x, c, e):
    """Returns the chance word of ab on the chance of c before e from x."""
    check_states(chain.size, (a, b, x, c, e), ((0, 1), (3, 4)))
    if not has_walk(chain, x, a, without=(c, e)):
        return "still"
    return ratio_verdict(chain, a, b, c, e)
