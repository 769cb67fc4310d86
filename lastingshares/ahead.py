"""Which worlds are greatest for all notes on a shape, told by the arrows alone."""

from lastingshares.aims import Ratio, check_costless
from lastingshares.chains import arrow_list
from lastingshares.forests import forest_arrows
from lastingshares.means import mean_rates, mean_verdict
from lastingshares.notes import Notes
from lastingshares.rates import lifted_rates, lowered_rates
from lastingshares.shapes import only_tree
from lastingshares.verdicts import ratio_verdict


def rule_for(chain, aim, pairs):
    """Returns those of the arrows that are to be high for the aim in all notes; None if one of them is "mixed"."""
    check_costless(aim, chain.size)
    found = []
    for arrow in arrow_list(chain, pairs):
        word = aim_verdict(chain, aim, arrow)
        if word == "mixed":
            return None
        if word == "lifts":
            found.append(arrow)
    return tuple(found)


def clash(chain, aim, pairs):
    """Returns the least "mixed" arrow, with notes in which it is decided high and notes in which it is decided low.

    Returns None if none of the arrows is "mixed".
    """
    check_costless(aim, chain.size)
    for arrow in arrow_list(chain, pairs):
        if aim_verdict(chain, aim, arrow) == "mixed":
            above, below = aim_rates(chain, aim, arrow)
            return (arrow, unseen_alone(above, arrow), unseen_alone(below, arrow))
    return None


def tree_world(notes, c):
    """Returns the only greatest world for the share of c if just one tree leads to c in the shape; otherwise None."""
    tree = only_tree(notes.shape(), c)
    return None if tree is None else notes.world(forest_arrows(tree))


def aim_verdict(chain, aim, arrow):
    """Returns the word of the arrow for a ratio or a mean."""
    a, b = arrow
    if isinstance(aim, Ratio):
        return ratio_verdict(chain, a, b, aim.over, aim.under)
    return mean_verdict(chain, a, b, aim.row)


def aim_rates(chain, aim, arrow):
    """Returns two Chains of the same shape: the push of the aim at a "mixed" arrow is above 0 in one, below in one."""
    a, b = arrow
    if isinstance(aim, Ratio):
        c, e = aim.over, aim.under
        return (lifted_rates(chain, a, b, c, e), lowered_rates(chain, a, b, c, e))
    return (mean_rates(chain, a, b, aim.row, 1), mean_rates(chain, a, b, aim.row, -1))


def unseen_alone(rates, arrow):
    """Returns the notes of these rates in which the arrow alone is unseen; its push is the same in all their worlds."""
    a, b = arrow
    rate = rates.rows[a][b]
    return Notes.of_world(rates).widen(a, b, rate, rate + 1)
