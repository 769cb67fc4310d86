"""The examples of the document, word by word, and those of README.md."""

import doctest
import unittest
from pathlib import Path

from lastingshares import errors

EXAMPLES = [
    """
>>> from lastingshares.tables import Table
>>> table = Table([[0, 2, 0], [1, 0, 0], [0, 5, 0]])
>>> [list(~table), (table * 3).rows, len(table + ~table), (1, 2) in table]
[[(0, 1), (1, 0), (1, 2)], ((0, 6, 0), (3, 0, 0), (0, 15, 0)), 4, False]
""",
    """
>>> from lastingshares.chains import Chain
>>> Chain([[0, 2, 0], [1, 0, 0], [0, 5, 0]])
raises NotJoined((0, 1))
""",
    """
>>> from lastingshares.chains import Chain
>>> from lastingshares.shapes import only_tree, ungated
>>> from lastingshares.walks import gates, walks
>>> chain = Chain([[0, 2, 0], [1, 0, 3], [4, 0, 0]])
>>> (gates(chain, 2, 1), walks(chain, 1, 0), only_tree(chain, 1), ungated(chain, 0))
((2, 0, 1), [(1, 0), (1, 2, 0)], (1, 1, 0), (1, 2))
""",
    r"""
>>> from lastingshares.texts import rate_table, table_from
>>> table = table_from("states 3\n0 1 12\n2 0 4")
>>> rate_table(table)
' . 12  0\n 0  .  0\n 4  0  .'
""",
    """
>>> from lastingshares.chains import Chain
>>> from lastingshares.forests import forest_weight, forests, lead_row
>>> chain = Chain([[0, 2, 0], [1, 0, 3], [4, 0, 0]])
>>> [list(forests(chain, [0])), forest_weight(chain, (0, 2, 0)), lead_row((1, 1, 2))]
[[(0, 0, 0), (0, 2, 0)], 12, (1, 1, 2)]
""",
    """
>>> from lastingshares.chains import Chain
>>> from lastingshares.sums import forest_row, forest_sum, forest_two, listed_sum
>>> chain = Chain([[0, 1, 2, 0], [0, 0, 1, 1], [1, 0, 0, 3], [1, 0, 0, 0]])
>>> [forest_row(chain, 2, [3]), forest_sum(chain, (3, 2)), forest_two(chain, 0, 2, 1, 3), listed_sum(chain, [2, 3], [(0, 3)])]
[(5, 3, 6, 0), 6, 2, 1]
""",
    """
>>> from lastingshares.chains import Chain
>>> from lastingshares.trees import holding_all, shares, tree_row, with_shares
>>> chain = Chain([[0, 2, 0], [1, 0, 3], [4, 0, 0]])
>>> [tree_row(chain), shares(chain), holding_all(chain, [(1, 2)]), with_shares(chain, [1, 1, 1]).rows]
[(16, 8, 6), ((8, 15), (4, 15), (1, 5)), 18, ((0, 16, 0), (4, 0, 12), (12, 0, 0))]
""",
    """
>>> from lastingshares.chains import Chain
>>> from lastingshares.carried import current_rows, ring_sums
>>> chain = Chain([[0, 2, 0], [1, 0, 3], [4, 0, 0]])
>>> (current_rows(chain), ring_sums(chain))
(((0, 32, 0), (8, 0, 24), (24, 0, 0)), [((0, 1), 8), ((0, 1, 2), 24)])
""",
    """
>>> from lastingshares.chains import Chain
>>> from lastingshares.comings import chance_row
>>> chain = Chain([[0, 1, 1], [1, 0, 2], [1, 0, 0]])
>>> chance_row(chain, 1, 2)
((1, 2), (1, 1), (0, 1))
""",
    """
>>> from lastingshares.chains import Chain
>>> from lastingshares.longs import long_row, time_row
>>> chain = Chain([[0, 1, 1], [1, 0, 2], [1, 0, 0]])
>>> (long_row(chain, 2), time_row(chain, 2))
((4, 3, 0), ((4, 5), (3, 5), (0, 1)))
""",
    """
>>> from lastingshares.chains import Chain
>>> from lastingshares.gaps import detour, there_and_back
>>> chain = Chain([[0, 1, 1], [1, 0, 2], [1, 0, 0]])
>>> [detour(chain, 0, 1, 2), detour(chain, 2, 0, 1), there_and_back(chain, 1, 2)]
[(9, 5), (0, 1), (18, 5)]
""",
    """
>>> from lastingshares.chains import Chain
>>> from lastingshares.pushes import gainers, parting, push, share_pushes
>>> chain = Chain([[0, 1, 1], [1, 0, 2], [1, 0, 0]])
>>> (push(chain, 0, 1, 1, 2), share_pushes(chain, 0, 1), parting(chain, 0, 1), gainers(chain, 0, 1))
(1, (-3, 2, 1), 4, (1, 2, 0))
""",
    """
>>> from lastingshares.chains import Chain
>>> from lastingshares.compared import ratio_gap, ratio_terms
>>> from lastingshares.single import Faster, moves_share, moves_time
>>> chain = Chain([[0, 1, 1], [1, 0, 2], [1, 0, 0]])
>>> new = Faster(0, 1, 2)(chain)
>>> [ratio_gap(chain, new, 1, 2), ratio_terms(chain, new, 1, 2), moves_share(chain, 0, 1, 2), moves_time(chain, 0, 1, 0, 2)]
[6, [(0, 1, 6)], 1, -1]
""",
    """
>>> from lastingshares.chains import Chain
>>> from lastingshares.growth import factor, rate_for, run_ends, step_of
>>> chain = Chain([[0, 1, 1], [1, 0, 2], [1, 0, 0]])
>>> (factor(chain, 0, 1, 2, 2), step_of(chain, 0, 1, 2), run_ends(chain, 0, 1, 1, 2), rate_for(chain, 0, 1, 1, 2, 1, 3))
((9, 5), 'between', ((0, 3), (1, 2)), (3, 1))
""",
    """
>>> from lastingshares.chains import Chain
>>> from lastingshares.pairings import lifting_forest, lifting_walks
>>> from lastingshares.verdicts import mixed_arrows, ratio_verdict
>>> chain = Chain.of_arrows(4, [(0, 1), (0, 2), (0, 3), (1, 2), (1, 3), (2, 0), (3, 0)])
>>> [ratio_verdict(chain, 0, 1, 2, 3), lifting_walks(chain, 0, 1, 2, 3), lifting_forest(chain, 0, 1, 2, 3), mixed_arrows(chain, 2, 3)]
['mixed', ((1, 2), (0, 3)), (3, 2, 2, 3), [(0, 1)]]
""",
    """
>>> from lastingshares.chains import Chain
>>> from lastingshares.pushes import push
>>> from lastingshares.rates import forested
>>> chain = Chain.of_arrows(4, [(0, 1), (0, 2), (0, 3), (1, 2), (1, 3), (2, 0), (3, 0)])
>>> rates = forested(chain, (3, 2, 2, 3), 7)
>>> (rates.rows, push(rates, 0, 1, 2, 3))
(((0, 1, 1, 7), (0, 0, 7, 1), (1, 0, 0, 0), (1, 0, 0, 0)), 48)
""",
    """
>>> from lastingshares.chains import Chain
>>> from lastingshares.means import linked, lot_lowerer
>>> chain = Chain.of_arrows(4, [(0, 1), (0, 3), (1, 2), (2, 0), (3, 0)])
>>> (linked(chain, 0, 1), lot_lowerer(chain, [3, 1]))
([(1, 0), (1, 3), (2, 0), (2, 3)], (0, 1))
""",
    """
>>> from lastingshares.chains import Chain
>>> from lastingshares.timing import time_verdict
>>> from lastingshares.verdicts import still_classes
>>> ring = Chain.around([1, 1, 1])
>>> (time_verdict(ring, 0, 1, 0, 2), time_verdict(ring, 0, 1, 1, 2), still_classes(ring, 0, 1))
('sooner', 'still', [(0,), (1, 2)])
""",
    """
>>> from lastingshares.chains import Chain
>>> from lastingshares.falls import by_pushes, by_shares, fall, fall_to
>>> chain = Chain([[0, 2, 3], [5, 0, 7], [1, 0, 0]])
>>> [fall_to(chain, (0, 1), (1, 2), 2), by_pushes(chain, (0, 1), (1, 2), 2), fall(chain, (0, 1), (1, 2)), by_shares(chain, (0, 1), (1, 2))]
[-210, -210, -224, -224]
""",
    """
>>> from lastingshares.chains import Chain
>>> from lastingshares.rooted import falls_out, rooted_verdict
>>> chain = Chain([[0, 2, 3], [5, 0, 7], [1, 0, 0]])
>>> (falls_out(chain, (0, 1), 1, 2), rooted_verdict(chain, (0, 1), (1, 2), 2))
([((1, 0), 210), ((1, 2), -210)], 'helpful')
""",
    """
>>> from lastingshares.chains import Chain
>>> from lastingshares.couples import couple_verdict, couple_walks
>>> chain = Chain([[0, 2, 3], [5, 0, 7], [1, 0, 0]])
>>> (couple_walks(chain, (0, 1), (1, 2)), couple_verdict(chain, (0, 1), (1, 2)), couple_verdict(chain, (0, 1), (1, 0)))
((True, False, True, True), 'both', 'contrary')
""",
    """
>>> from lastingshares.chains import Chain
>>> from lastingshares.many import push_square, square_sum
>>> chain = Chain([[0, 2, 3], [5, 0, 7], [1, 0, 0]])
>>> (push_square(chain, [(1, 2), (0, 1)], 2), square_sum(chain, [(1, 2), (0, 1)], 2))
(((7, -3), (5, 5)), 700)
""",
    """
>>> from lastingshares.chains import Chain
>>> from lastingshares.aims import Cost, Mean, Ratio
>>> chain = Chain([[0, 2, 0], [1, 0, 3], [4, 0, 0]])
>>> cost = Cost([0, 0, 0], [[0, 1, 0], [0, 0, 0], [0, 0, 0]])
>>> [Ratio(0, 2)(chain), Mean([1, 0, 2])(chain), cost(chain), Mean([1, 0, 0]).push_at(chain, 1, 2)]
[(8, 3), (14, 15), (16, 15), 3]
""",
    """
>>> from lastingshares.notes import Notes, worlds
>>> from lastingshares.aims import Ratio
>>> from lastingshares.ends import ends_of
>>> from lastingshares.boxes import decided
>>> notes = Notes([[0, 2, 0], [1, 0, 1], [4, 0, 0]], [[0, 2, 0], [1, 0, 5], [4, 0, 0]])
>>> [list(notes), len(worlds(notes)), ends_of(notes, Ratio(0, 1)), decided(notes, Ratio(0, 1))]
[[(1, 2)], 5, ((1, 1), (3, 1)), (((1, 2),), (), ())]
""",
    """
>>> from lastingshares.notes import Notes
>>> from lastingshares.papers import bound_row, ratio_paper
>>> notes = Notes([[0, 2, 0], [1, 0, 1], [4, 0, 0]], [[0, 2, 0], [1, 0, 5], [4, 0, 0]])
>>> [ratio_paper(notes, 0, 1), bound_row(notes, [4, 0, 4])]
[(24, 8, (4, 0, 4)), (-8, 24, 0)]
""",
    """
>>> from lastingshares.notes import Notes
>>> from lastingshares.rooms import rooms
>>> notes = Notes([[0, 2, 0], [1, 0, 1], [4, 0, 0]], [[0, 2, 0], [1, 0, 5], [4, 0, 0]])
>>> rooms(notes, [2, 1, 1])
[((0,), 1), ((0, 1), 3), ((0, 2), 2), ((1,), 2), ((1, 2), -1), ((2,), 1)]
""",
    """
>>> from lastingshares.rooms import level_lots
>>> level_lots([4, -1, 4, 2])
[((0, 2), 2), ((0, 2, 3), 3)]
""",
    """
>>> from lastingshares.notes import Notes
>>> from lastingshares.told import rate_span, tells_rates
>>> notes = Notes([[0, 2, 0], [1, 0, 1], [4, 0, 0]], [[0, 2, 0], [1, 0, 5], [4, 0, 0]])
>>> [rate_span(notes, [8, 4, 3], 1, 2), tells_rates(notes, [8, 4, 3])]
[((3, 1), (3, 1)), True]
""",
    """
>>> from lastingshares.chains import Chain
>>> from lastingshares.free import leaves_open, stuck_arrow
>>> chain = Chain([[0, 2, 0], [1, 0, 3], [4, 0, 0]])
>>> [stuck_arrow(chain, [(1, 0), (0, 1)]), leaves_open(chain, [(0, 1)])]
[(1, 0), True]
""",
    """
>>> from lastingshares.notes import Notes
>>> from lastingshares.aims import Ratio
>>> from lastingshares.gapping import gap, gap_by_lots, gap_lots
>>> notes = Notes([[0, 2, 0], [1, 0, 1], [4, 0, 0]], [[0, 2, 0], [1, 0, 5], [4, 0, 0]])
>>> aim = Ratio(0, 1)
>>> [gap_lots(notes, aim), gap(notes, aim, [2, 1, 1]), gap_by_lots(notes, aim, [2, 1, 1])]
[[((0, 2), 4)], 8, 8]
""",
    """
>>> from lastingshares.chains import Chain
>>> from lastingshares.passings import pass_sum, ring_passes
>>> chain = Chain([[0, 2, 0], [1, 0, 1], [3, 0, 0]])
>>> costs = [[0, 1, 0], [-2, 0, 0], [5, 0, 0]]
>>> (pass_sum(chain, costs), ring_passes(chain, costs))
(30, [((0, 1), -1, 6), ((0, 1, 2), 6, 6)])
""",
    """
>>> from lastingshares.chains import Chain
>>> from lastingshares.heights import even_heights, ring_heights, sum_verdict
>>> chain = Chain([[0, 2, 0], [1, 0, 1], [3, 0, 0]])
>>> costs = [[0, 3, 0], [-1, 0, 2], [-4, 0, 0]]
>>> (sum_verdict(chain, costs), ring_heights(chain, costs), even_heights(chain, costs))
('above', (0, 3, 5), None)
""",
    """
>>> from lastingshares.chains import Chain
>>> from lastingshares.turned import current_table, net, net_verdict, of_rings
>>> chain = Chain([[0, 2, 0], [1, 0, 1], [3, 0, 0]])
>>> table = of_rings(3, [[(0, 1), 6], [(0, 1, 2), 6]])
>>> (net(chain, 0, 1), net_verdict(chain, 0, 1), table.rows, table == current_table(chain))
(6, 'above', ((0, 12, 0), (6, 0, 6), (6, 0, 0)), True)
""",
    """
>>> from lastingshares.chains import Chain
>>> from lastingshares.watched import left_out, places_in, watched
>>> chain = Chain([[0, 2, 0], [1, 0, 1], [3, 0, 0]])
>>> (watched(chain, [2, 0]).rows, left_out(chain, 1).rows, places_in([2, 0], 2))
(((0, 2), (6, 0)), ((0, 2), (6, 0)), 1)
""",
    """
>>> from lastingshares.chains import Chain
>>> from lastingshares.desks import Desk
>>> from lastingshares.trees import tree_row
>>> desk = Desk(Chain([[0, 2, 0], [1, 0, 1], [3, 0, 0]]), watch=(2, 0))
>>> chain = desk.weigh(0, 1, 4)
>>> (chain.rows, desk.what_if([("turn",)], tree_row), list(desk), desk.seen_alone().rows)
(((0, 4, 0), (1, 0, 1), (3, 0, 0)), (4, 4, 12), ['weigh'], ((0, 4), (6, 0)))
""",
    r"""
>>> from lastingshares.chains import Chain
>>> from lastingshares.desks import Desk
>>> from lastingshares.trials import tried
>>> desk = Desk(Chain([[0, 2, 0], [1, 0, 1], [3, 0, 0]]))
>>> first, second = tried(desk, [("speed", 2, 2), ("turn",)])
>>> (first.rows, second.rows, len(desk), desk.words())
(((0, 2, 0), (1, 0, 1), (6, 0, 0)), ((0, 1, 6), (2, 0, 0), (0, 1, 0)), 0, 'states 3\n0 1 2\n1 0 1\n1 2 1\n2 0 3\ndeeds 0\nunseen none')
""",
]


def outcome(lines):
    """The text that the session shows for its last line."""
    names = {}
    for line in lines[:-1]:
        exec(line, names)
    try:
        return repr(eval(lines[-1], names))
    except errors.ChainError as error:
        values = ", ".join(repr(value) for value in vars(error).values())
        return f"raises {type(error).__name__}({values})"


class Examples(unittest.TestCase):
    def test_each_example(self):
        for example in EXAMPLES:
            lines = example.strip().split("\n")
            with self.subTest(lines[-2]):
                self.assertEqual(outcome([line.removeprefix(">>> ") for line in lines[:-1]]), lines[-1])

    def test_the_readme(self):
        text = (Path(__file__).parent.parent / "README.md").read_text().replace("```", "")
        examples = doctest.DocTestParser().get_doctest(text, {}, "README.md", "README.md", 0)
        runner = doctest.DocTestRunner()
        runner.run(examples, out=self.fail)
        self.assertGreater(runner.tries, 20)


if __name__ == "__main__":
    unittest.main()
