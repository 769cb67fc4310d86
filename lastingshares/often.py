"""Which states are visited and which arrows are passed more often for all rates."""

from lastingshares.chains import arrow_list
from lastingshares.heights import ring_word, sum_verdict
from lastingshares.numbers import check_states
from lastingshares.passings import counting
from lastingshares.rings import rings_along
from lastingshares.walks import has_walk


def visit_verdict(chain, x, y):
    """Returns the word of the visits of x less the visits of y."""
    check_states(chain.size, (x, y), ((0, 1),))
    return ring_word(is_rounded(chain, x, y), is_rounded(chain, y, x))


def pass_verdict(chain, first, second):
    """Returns the word of the sum of the currents of the first arrows less that of the second ones."""
    more = counting(chain.size, arrow_list(chain, first))
    less = counting(chain.size, arrow_list(chain, second))
    return sum_verdict(chain, [[one - other for one, other in zip(line, row)] for line, row in zip(more, less)])


def ring_without(chain, y, x):
    """Returns the least ring that meets y and does not meet x; None if there is none."""
    check_states(chain.size, (y, x), ((0, 1),))
    for ring in rings_along(chain):
        if y in ring and x not in ring:
            return ring
    return None


def visit_span(chain, x, y):
    """Returns the lower and the upper end of the visit ratio of y against x; (1, 0) stands for no upper end."""
    check_states(chain.size, (x, y), ((0, 1),))
    low = (0, 1) if is_rounded(chain, x, y) else (1, 1)
    return (low, (1, 0) if is_rounded(chain, y, x) else (1, 1))


def is_rounded(chain, x, y):
    """Returns True if some ring meets x and does not meet y."""
    return any([has_walk(chain, head, x, without=(y,)) for head in chain.heads(x)])
