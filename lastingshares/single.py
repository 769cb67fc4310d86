"""One rate raised, and which way ratios, shares, mean times and chances move by it."""

from lastingshares.numbers import check_number, check_states, sign_of
from lastingshares.pushes import push, share_push
from lastingshares.walks import has_walk


class Faster:
    """A raise of the rate of the pair ab by an integer of at least 1."""

    __slots__ = ("a", "b", "by")

    def __init__(self, a, b, by):
        check_number("by", by, 1)
        self.a = a
        self.b = b
        self.by = by

    def __call__(self, table):
        return table.with_rate(self.a, self.b, table.rate(self.a, self.b) + self.by)

    def word(self):
        """Returns the pair and the raise as a string."""
        return f"{self.a} {self.b} +{self.by}"


def moves_ratio(chain, a, b, c, e):
    """Returns 1, 0 or -1 as a faster ab makes the ratio of c and e greater, leaves it, or makes it less."""
    return sign_of(push(chain, a, b, c, e))


def moves_share(chain, a, b, c):
    """Returns 1, 0 or -1 as a faster ab makes the share of c greater, leaves it, or makes it less."""
    return sign_of(share_push(chain, a, b, c))


def moves_time(chain, a, b, x, c):
    """Returns 1, 0 or -1 as a faster ab makes the mean time from x to c greater, leaves it, or makes it less."""
    check_states(chain.size, (a, b, x, c), ((0, 1),))
    # Only a thing that comes to a on its way notices the change.
    if not has_walk(chain, x, a, without=(c,)):
        return 0
    return -moves_share(chain, a, b, c)


def moves_chance(chain, a, b, x, c, e):
    """Returns 1, 0 or -1 as a faster ab makes the chance of c before e from x greater, leaves it, or makes it less."""
    check_states(chain.size, (a, b, x, c, e), ((0, 1), (3, 4)))
    if not has_walk(chain, x, a, without=(c, e)):
        return 0
    return moves_ratio(chain, a, b, c, e)
