"""What a faster arrow does to ratios and shares for all rates, told by walks."""

from lastingshares.numbers import check_states
from lastingshares.pairings import lifting_walks, lowering_walks
from lastingshares.parted import separating
from lastingshares.shapes import only_tree
from lastingshares.walks import is_gate


def ratio_verdict(chain, a, b, c, e):
    """Returns the ratio word of ab on c against e."""
    lifts = lifting_walks(chain, a, b, c, e) is not None
    lowers = lowering_walks(chain, a, b, c, e) is not None
    return word_of(lifts, lowers)


def share_verdict(chain, a, b, c):
    """Returns the share word of ab on c."""
    check_states(chain.size, (a, b, c), ((0, 1),))
    return word_of(not is_gate(chain, b, a, c), not is_gate(chain, a, b, c))


def still_classes(chain, a, b):
    """Returns the list of the classes of ab, each one a tuple of states, ordered by their least states."""
    check_states(chain.size, (a, b), ((0, 1),))
    classes = []
    for c in range(chain.size):
        places = [place for place, states in enumerate(classes) if is_still(chain, a, b, c, states[0])]
        if places:
            classes[places[0]].append(c)
        else:
            classes.append([c])
    return [tuple(states) for states in classes]


def mixed_arrows(chain, c, e):
    """Returns the ascending list of the arrows with the ratio word "mixed" on c against e."""
    check_states(chain.size, (c, e), ((0, 1),))
    return [(a, b) for a, b in chain if ratio_verdict(chain, a, b, c, e) == "mixed"]


def one_way(chain, c):
    """Returns True if no arrow has the share word "mixed" on c."""
    return only_tree(chain, c) is not None


def word_of(lifts, lowers):
    """Returns the word of an integer that is above 0 at some rates or not, and below 0 at some rates or not."""
    if lifts and lowers:
        return "mixed"
    if lifts:
        return "lifts"
    return "lowers" if lowers else "still"


def is_still(chain, a, b, c, e):
    """Returns True if ab moves the ratio of c and e, two different states, at no rates."""
    return separating(chain, a, b, c, e) is not None
