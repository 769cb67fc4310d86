"""The names, arguments and places of the interface, and how the package as a whole is made."""

import importlib
import inspect
import unittest
from pathlib import Path

import lastingshares

ERRORS = {
    "ChainError": (), "BadNumber": ("name",), "BadState": ("place",), "SameState": ("first", "second"),
    "BadSet": ("place",), "BadTable": ("x", "y"), "NotJoined": ("lot",), "OtherSize": ("size",),
    "BadPair": ("place",), "NotArrow": ("x", "y"), "BadRow": ("place",), "BadForest": ("place",),
    "BadRing": ("place",), "BadCosts": ("x", "y"), "BadNotes": ("x", "y"), "NotAgreeing": ("x", "y"),
    "NoTree": (), "NotReached": ("lot",), "TooMany": ("number",), "BadText": ("line",), "NoDeed": (),
    "BadDeed": ("place",),
}

FUNCTIONS = {
    "numbers": ["is_int(thing)", "fraction(u, v)", "is_less(one, other)", "sign_of(number)", "row_of(size, thing)",
                "states_of(size, thing)", "lot_of(size, thing)", "check_states(size, states, unlike=())"],
    "tables": ["summed(*tables)"],
    "chains": ["is_joined(table)", "pair_list(size, pairs)", "arrow_list(table, pairs)", "same_shape(table, other)"],
    "walks": ["has_walk(table, x, y, *, without=())", "shortest_walk(table, x, y, *, without=())",
              "walks_along(table, x, y)", "walks(table, x, y)", "gates(table, x, y)", "is_gate(table, x, b, y)"],
    "parted": ["parted_walks(table, x, y, z, u)", "separating(table, a, b, c, e)"],
    "rings": ["rings_along(table)", "rings(table, *, limit=2000)", "rings_with(table, x, y)",
              "ring_of(table, thing)", "ring_weight(table, ring)", "ring_cost(costs, ring)"],
    "shapes": ["only_tree(chain, c)", "is_hanging(chain)", "crossing_rings(chain)", "second_walk(chain)",
               "ungated(chain, c)"],
    "texts": ["table_text(table)", "table_from(string)", "chain_from(string)", "rate_table(table)"],
    "forests": ["forests(table, roots)", "trees(table, x)", "forest_of(table, thing, roots)", "lead(forest, x)",
                "lead_row(forest)", "roots_in(forest)", "forest_arrows(forest)", "forest_weight(table, forest)"],
    "sums": ["forest_sum(table, roots)", "forest_row(table, c, others=())", "forest_two(table, x, c, y, e)",
             "listed_sum(table, roots, ends=())", "determinant(rows)"],
    "trees": ["tree_sum(table, x)", "tree_row(table)", "tree_total(table)", "shares(table)", "lowest_row(table)",
              "holding(table, arrows, x)", "holding_all(table, arrows)", "drift(table, heights)",
              "with_shares(chain, row)"],
    "carried": ["current(table, x, y)", "current_rows(table)", "ring_sums(table)", "ring_parts(table, x, y)"],
    "comings": ["coming_row(table, c, e)", "pair_sum(table, c, e)", "chance(table, x, c, e)",
                "chance_row(table, c, e)", "likelier(table, a, b, c, e)"],
    "longs": ["long_row(table, c)", "long(table, x, c)", "mean_time(table, x, c)", "time_row(table, c)",
              "two_root_sum(table)"],
    "gaps": ["detour_sum(table, x, y, z)", "detour(table, x, y, z)", "there_and_back(table, y, z)",
             "sooner(chain, x, y, z)"],
    "pushes": ["push(table, a, b, c, e)", "push_rows(table, c, e)", "lifting(table, a, b, c, e)",
               "lowering(table, a, b, c, e)", "share_push(table, a, b, c)", "share_pushes(table, a, b)",
               "mean_push(table, a, b, row)", "parting(table, a, b)", "gainers(table, a, b)"],
    "compared": ["two_sized(old, new)", "changed_pairs(old, new)", "ratio_gap(old, new, c, e)",
                 "ratio_terms(old, new, c, e)", "share_gap(old, new, c)", "mean_gap(old, new, row)",
                 "mean_terms(old, new, row)", "chance_gap(old, new, x, c, e)", "chance_terms(old, new, x, c, e)",
                 "long_gap(old, new, x, c)", "long_terms(old, new, x, c)"],
    "single": ["moves_ratio(chain, a, b, c, e)", "moves_share(chain, a, b, c)", "moves_time(chain, a, b, x, c)",
               "moves_chance(chain, a, b, x, c, e)"],
    "growth": ["factor(chain, a, b, by, c)", "step_of(chain, a, b, c)", "run_ends(table, a, b, c, e)",
               "rate_for(chain, a, b, c, e, u, v)"],
    "pairings": ["lifting_walks(chain, a, b, c, e)", "lowering_walks(chain, a, b, c, e)",
                 "grown(chain, roots, walks)", "lifting_forest(chain, a, b, c, e)",
                 "lowering_forest(chain, a, b, c, e)"],
    "verdicts": ["ratio_verdict(chain, a, b, c, e)", "share_verdict(chain, a, b, c)", "still_classes(chain, a, b)",
                 "mixed_arrows(chain, c, e)", "one_way(chain, c)"],
    "rates": ["forested(chain, forest, number)", "lifted_rates(chain, a, b, c, e)",
              "lowered_rates(chain, a, b, c, e)", "level_rates(chain, a, b, c, e)",
              "share_rates(chain, a, b, c, sign)"],
    "means": ["linked(chain, a, b)", "mean_verdict(chain, a, b, row)", "mean_rates(chain, a, b, row, sign)",
              "lot_verdict(chain, a, b, lot)", "lot_lowerer(chain, lot)"],
    "timing": ["time_verdict(chain, a, b, x, c)", "chance_verdict(chain, a, b, x, c, e)"],
    "falls": ["fall_to(table, one, other, c)", "fall(table, one, other)", "by_pushes(table, one, other, c)",
              "by_shares(table, one, other)"],
    "rooted": ["falls_out(table, one, state, c)", "falls_out_total(table, one, state)",
               "rooted_verdict(chain, one, other, c)", "rooted_rates(chain, one, other, c, sign)"],
    "couples": ["couple_walks(chain, one, other)", "couple_verdict(chain, one, other)",
                "couple_rates(chain, one, other, word)"],
    "many": ["push_square(table, arrows, c)", "square_sum(table, arrows, c)", "rounds(table, one, other, third, c)",
             "third_sum(table, one, other, third, c)"],
    "notes": ["worlds(notes, *, limit=1000)", "corners(notes, *, limit=1000)", "is_scaled(notes, scaled)"],
    "aims": ["of_scaled(aim, scaled)"],
    "ends": ["greatest(notes, aim)", "least(notes, aim)", "is_greatest(notes, aim, world)",
             "is_least(notes, aim, world)", "better(notes, aim, world)", "ends_of(notes, aim)"],
    "boxes": ["decided(notes, aim)", "box(notes, aim)", "grows_high(notes, aim, x, y)",
              "grows_low(notes, aim, x, y)"],
    "papers": ["bound_row(notes, heights, *, scale=1, costs=None)",
               "is_paper(notes, row, scale, heights, *, costs=None)", "paper(notes, row, *, costs=None)",
               "against(notes, row, *, costs=None)", "ratio_paper(notes, c, e)", "at_least(notes, c, e, u, v)"],
    "ahead": ["rule_for(chain, aim, pairs)", "clash(chain, aim, pairs)", "tree_world(notes, c)"],
    "atonce": ["soonest(notes, c)", "latest(notes, c)", "likeliest(notes, c, e)", "is_soonest(notes, world, c)",
               "is_likeliest(notes, world, c, e)"],
    "between": ["world_at(notes, aim, u, v)", "towards(first, second)"],
    "rooms": ["share_row(size, thing)", "room(notes, row, states)", "rooms(notes, row)", "least_room(notes, row)",
              "tight_lots(notes, row)", "room_row(notes, lot)", "level_lots(heights)"],
    "currents": ["fitting(notes, row)", "is_fitting(notes, row, currents)", "scaled_of(row, currents)",
                 "chain_currents(chain)"],
    "reached": ["is_reached(notes, row)", "short_lot(notes, row)", "world_with(notes, row)",
                "rates_of_state(chain, x, row)"],
    "told": ["rate_span(notes, row, x, y)", "told_pairs(notes, row)", "tells_rates(notes, row)",
             "two_worlds(notes, row)"],
    "free": ["has_closed_row(size, pairs)", "shares_tell(chain, arrows)", "other_rates(chain, arrows)",
             "stuck_arrow(chain, arrows)", "leaves_open(chain, arrows)", "rates_for(chain, arrows, row)",
             "barred_row(chain, arrows)"],
    "gapping": ["gap_lots(notes, aim)", "gap(notes, aim, row)", "gap_by_lots(notes, aim, row)"],
    "passings": ["costs_of(size, thing)", "pass_sum(table, costs)", "ring_passes(table, costs)", "visits(table, x)",
                 "visit_row(table)", "counting(size, pairs)", "steps_into(size, x)", "steps_from(size, x)"],
    "heights": ["low_ring(chain, costs)", "ring_heights(chain, costs)", "even_heights(chain, costs)",
                "sum_verdict(chain, costs)", "sum_rates(chain, costs, sign)"],
    "often": ["visit_verdict(chain, x, y)", "pass_verdict(chain, first, second)", "ring_without(chain, y, x)",
              "visit_span(chain, x, y)"],
    "stepping": ["step_mean(table, costs)", "ring_means(chain, costs)", "rates_with_mean(chain, costs, u, v)",
                 "round_mean(table, x, costs)", "round_cost(chain, x, costs)"],
    "turned": ["current_table(table)", "is_even(table)", "is_balanced(table)", "net(table, x, y)",
               "net_verdict(chain, x, y)", "of_rings(size, rings)"],
    "watched": ["watched(table, states)", "left_out(table, z)", "places_in(states, x)",
                "time_in(table, states, x, c)"],
    "lumped": ["lumped(table, lots)", "lot_row(table, lots)", "is_alike(table, lots)", "alike_table(table, lots)"],
    "trials": ["tried(desk, deeds)"],
}

GENERATORS = ["walks_along", "rings_along", "forests"]

AIM = ["check(self, size)", "pair_in(self, table)", "push_at(self, table, a, b)", "word(self)",
       "__call__(self, table)"]

METHODS = {
    ("tables", "Table"): ["__init__(self, rows)", "rate(self, x, y)", "out_of(self, x)", "heads(self, x)",
                          "tails(self, y)", "arrows(self)", "with_rate(self, x, y, rate)", "times(self, x, number)",
                          "pairs_of(size)"],
    ("chains", "Chain"): ["__init__(self, rows)", "with_rate(self, x, y, rate)", "times(self, x, number)",
                          "around(cls, rates)", "of_arrows(cls, size, arrows)"],
    ("single", "Faster"): ["__init__(self, a, b, by)", "__call__(self, table)", "word(self)"],
    ("notes", "Notes"): ["__init__(self, lows, highs)", "of_world(cls, chain)", "around(cls, chain, below, above)",
                         "stretch(self, x, y)", "unseen(self)", "agrees(self, table)", "wrong_pair(self, table)",
                         "world(self, pairs)", "narrow(self, x, y, low, high)", "widen(self, x, y, low, high)",
                         "ask(self, x, y, rate)", "shape(self)"],
    ("aims", "Aim"): ["check(self, size)", "word(self)", "__call__(self, table)"],
    ("aims", "Ratio"): ["__init__(self, over, under)", *AIM],
    ("aims", "Mean"): ["__init__(self, row)", *AIM],
    ("aims", "Cost"): ["__init__(self, row, costs)", *AIM],
    ("desks", "Desk"): ["__init__(self, chain, *, notes=None, watch=())", "weigh(self, x, y, rate)",
                        "speed(self, x, number)", "turn(self)", "forget(self)", "narrow(self, x, y, low, high)",
                        "ask(self, x, y)", "settle(self, aim)", "watch(self, states)", "undo(self)", "shares(self)",
                        "verdicts(self, a, b)", "seen_alone(self)", "ends(self, aim)",
                        "what_if(self, deeds, question, *rest)", "words(self)"],
    ("trials", "Trial"): ["__init__(self, desk)", "__enter__(self)", "__exit__(self, kind, value, trace)"],
}

SIGNS = {
    ("tables", "Table"): ["__iter__", "__len__", "__contains__", "__getitem__", "__eq__", "__add__", "__mul__",
                          "__invert__"],
    ("chains", "Chain"): ["__add__", "__mul__", "__invert__"],
    ("notes", "Notes"): ["__iter__", "__len__", "__and__", "__eq__"],
    ("aims", "Ratio"): ["__eq__"],
    ("aims", "Mean"): ["__eq__"],
    ("aims", "Cost"): ["__eq__"],
    ("desks", "Desk"): ["__iter__", "__len__"],
}


def module(name):
    return importlib.import_module("lastingshares." + name)


def signature_of(name, function):
    return name + str(inspect.signature(function))


class Names(unittest.TestCase):
    def test_functions_stand_in_their_files_with_their_arguments(self):
        for name, signatures in FUNCTIONS.items():
            for signature in signatures:
                word = signature.split("(")[0]
                with self.subTest(signature):
                    function = vars(module(name))[word]
                    self.assertEqual(function.__module__, "lastingshares." + name)
                    self.assertEqual(signature_of(word, function), signature)
                    self.assertEqual(inspect.isgeneratorfunction(function), word in GENERATORS)

    def test_methods_stand_in_their_classes_with_their_arguments(self):
        for (name, title), signatures in METHODS.items():
            found = vars(module(name))[title]
            self.assertEqual(found.__module__, "lastingshares." + name)
            for signature in signatures:
                word = signature.split("(")[0]
                with self.subTest(signature):
                    method = vars(found)[word]
                    self.assertEqual(signature_of(word, getattr(method, "__func__", method)), signature)

    def test_signs_stand_in_their_classes(self):
        for (name, title), words in SIGNS.items():
            for word in words:
                with self.subTest(title + word):
                    self.assertIn(word, vars(vars(module(name))[title]))

    def test_kinds_of_the_other_members(self):
        table = vars(module("tables").Table)
        chain = vars(module("chains").Chain)
        self.assertIsInstance(table["many"], property)
        self.assertIsInstance(table["pairs_of"], staticmethod)
        self.assertIsInstance(chain["around"], classmethod)
        self.assertIsInstance(chain["of_arrows"], classmethod)
        self.assertEqual((table["WORD"], chain["WORD"]), ("table", "chain"))
        notes, aims = vars(module("notes").Notes), vars(module("aims"))
        self.assertIsInstance(notes["unseen_many"], property)
        self.assertIsInstance(notes["of_world"], classmethod)
        self.assertIsInstance(notes["around"], classmethod)
        self.assertEqual([vars(aims[name])["WORD"] for name in ("Aim", "Ratio", "Mean", "Cost")],
                         ["aim", "ratio", "mean", "cost"])
        self.assertTrue(issubclass(module("chains").Chain, module("tables").Table))
        desk = vars(module("desks").Desk)
        self.assertIsInstance(desk["many"], property)
        self.assertIsInstance(desk["watched_states"], property)


class Errors(unittest.TestCase):
    def test_each_error_stands_directly_below_the_base_class(self):
        errors = module("errors")
        self.assertEqual(errors.ChainError.__bases__, (Exception,))
        for name in ERRORS:
            with self.subTest(name):
                found = vars(errors)[name]
                self.assertEqual(found.__module__, "lastingshares.errors")
                if name != "ChainError":
                    self.assertEqual(found.__bases__, (errors.ChainError,))

    def test_each_error_keeps_its_arguments(self):
        for name, words in ERRORS.items():
            with self.subTest(name):
                values = [("value", place) for place in range(len(words))]
                error = vars(module("errors"))[name](*values)
                self.assertEqual([getattr(error, word) for word in words], values)
                self.assertEqual(len(vars(error)), len(words))


class Package(unittest.TestCase):
    def test_the_package_file_holds_a_docstring_alone(self):
        names = [name for name in vars(lastingshares) if not name.startswith("__")]
        self.assertEqual([name for name in names if not inspect.ismodule(vars(lastingshares)[name])], [])
        self.assertTrue(lastingshares.__doc__)
        lines = Path(lastingshares.__file__).read_text().strip()
        self.assertTrue(lines.startswith('"""') and lines.endswith('"""') and lines.count('"""') == 2)


if __name__ == "__main__":
    unittest.main()
