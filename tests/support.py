"""What several tests use: tables to try, slow definitions to compare with, and a check of errors."""

from itertools import permutations, product
from math import gcd

from lastingshares.aims import Cost, Mean, Ratio
from lastingshares.chains import Chain, is_joined
from lastingshares.errors import (BadCosts, BadNumber, BadPair, BadRow, BadSet, BadState, ChainError, NotAgreeing,
                                  NotArrow, OtherSize, SameState)
from lastingshares.notes import Notes
from lastingshares.tables import Table


def check_error(case, expected, call, *args, **named):
    """Fails if the call does not raise just this error, with just these attributes."""
    with case.assertRaises(ChainError) as caught:
        call(*args, **named)
    case.assertIs(type(caught.exception), type(expected))
    case.assertEqual(vars(caught.exception), vars(expected))


def check_states_named(case, call, table, args, *, same=(), at=None):
    """Fails if the call does not check its state arguments, which stand at these places of `args`, in order.

    The other arguments may be wrong, too: the errors of the states come first.
    """
    places = list(range(len(args))) if at is None else list(at)
    for place, index in enumerate(places):
        for thing in (True, False, -1, table.size, None, "0", (0,)):
            one, several = list(args), list(args)
            one[index] = thing
            for later in places[place:]:
                several[later] = thing
            check_error(case, BadState(place), call, table, *one)
            check_error(case, BadState(place), call, table, *several)
    for first, second in same:
        equal = list(args)
        equal[places[second]] = equal[places[first]]
        check_error(case, SameState(first, second), call, table, *equal)


def check_sets_named(case, call, *, least):
    """Fails if the call with a set of the states 0, 1, 2 does not check it; it needs `least` states or more."""
    for thing in (None, 0, True, "01", {0}, {0: 1}, range(2)):
        check_error(case, BadSet(-1), call, thing)
    for thing in (True, False, -1, 3, None, "0", (0,)):
        check_error(case, BadSet(0), call, [thing])
        check_error(case, BadSet(1), call, (2, thing))
    check_error(case, BadSet(2), call, [1, 0, 1])
    check_error(case, BadSet(1), call, (1, 1, 5))
    for thing in ([], ()):
        if least > 0:
            check_error(case, BadSet(-2), call, thing)


def check_rows_named(case, call):
    """Fails if the call with a row for the states 0, 1, 2 does not check it."""
    for thing in (None, 3, "012", {0: 1, 1: 1, 2: 1}, {0, 1, 2}, range(3), [], [1, 1], (1, 1, 1, 1)):
        check_error(case, BadRow(-1), call, thing)
    for thing in (True, False, None, "1", (1,), 1.0):
        check_error(case, BadRow(0), call, [thing, 1, thing])
        check_error(case, BadRow(2), call, (1, 1, thing))


def check_shares_named(case, call):
    """Fails if the call with a share row for the states 0, 1, 2 does not check it."""
    check_rows_named(case, call)
    for thing in (0, -1, -10 ** 12):
        for place in range(3):
            row = [1, 2, 3]
            row[place:] = [thing] * (3 - place)
            check_error(case, BadRow(place), call, row)
            check_error(case, BadRow(place), call, tuple(row))


def check_pairs_named(case, call):
    """Fails if the call with a list of pairs of the states 0, 1, 2 does not check it."""
    for thing in (None, 0, "01", {(0, 1)}, {0: 1}, range(2)):
        check_error(case, BadPair(-1), call, thing)
    for thing in (None, 0, "01", {0, 1}, (0,), (0, 1, 2), (1, 1), (0, 3), (-1, 0), (True, 0), (0, False), ("0", 1)):
        check_error(case, BadPair(0), call, [thing])
        check_error(case, BadPair(0), call, (thing, thing))
        check_error(case, BadPair(1), call, ([0, 1], thing))
    check_error(case, BadPair(1), call, [(0, 1), [0, 1], (5, 5)])


def check_arrow_lists_named(case, call):
    """Fails if the call with a list of arrows of the chain with the arrows 01, 10, 12, 20 does not check it."""
    check_pairs_named(case, call)
    check_error(case, NotArrow(0, 2), call, [(2, 1), (0, 1), (0, 2)])
    check_error(case, NotArrow(0, 2), call, ((0, 2), (2, 1)))
    check_error(case, NotArrow(2, 1), call, [[2, 1]])
    check_error(case, BadPair(2), call, [(0, 2), (0, 1), (1, 1)])


def check_worlds_named(case, call, notes):
    """Fails if the call with a world of these notes, which have 3 states and a pair that is seen, does not check it."""
    for size in (2, 4, 8):
        check_error(case, OtherSize(size), call, complete(size))
    for x, y in Table.pairs_of(3):
        low, high = notes.stretch(x, y)
        wrong = [list(row) for row in notes.lows.rows]
        wrong[x][y] = high + 1
        check_error(case, NotAgreeing(x, y), call, Table(wrong))
        for a, b in Table.pairs_of(3):
            if (a, b) > (x, y):
                wrong[a][b] = notes.highs.rows[a][b] + 1
        check_error(case, NotAgreeing(x, y), call, Table(wrong))
        if low > 0:
            wrong[x][y] = low - 1
            check_error(case, NotAgreeing(x, y), call, Table(wrong))


def check_numbers_named(case, name, call, *, least):
    """Fails if the call with a number does not check it; it is an integer of at least `least`, or any one if None."""
    for thing in (True, False, None, "1", (1,), 1.0, [2]):
        check_error(case, BadNumber(name), call, thing)
    if least is not None:
        check_error(case, BadNumber(name), call, least - 1)
        check_error(case, BadNumber(name), call, -10 ** 12)


def check_signs_named(case, signs, call):
    """Fails if the call with a sign does not check it."""
    for thing in (True, False, None, "1", (1,), 2, -2, *[sign for sign in (1, 0, -1) if sign not in signs]):
        check_error(case, BadNumber("sign"), call, thing)


def check_arrows_named(case, call, table, arrows):
    """Fails if the call with these arrows, all of them different ones of the table, does not check each one."""
    absent = [pair for pair in table.pairs_of(table.size) if pair not in table]
    for place in range(len(arrows)):
        for thing in (None, 0, "01", {0: 1, 1: 0}, {0, 1}, (0,), (0, 1, 2), (1, 1), (0, table.size), (-1, 0),
                      (True, 0), (0, False), ("0", 1), [0, None]):
            one = list(arrows)
            one[place] = thing
            check_error(case, BadPair(place), call, *one)
            check_error(case, BadPair(place), call, *one[:place], *[thing] * (len(arrows) - place))
        for earlier in range(place):
            one = list(arrows)
            one[place] = list(arrows[earlier])
            check_error(case, BadPair(place), call, *one)
        for x, y in absent:
            one = list(arrows)
            one[place] = (x, y)
            check_error(case, NotArrow(x, y), call, *one)
            # A wrong pair comes before one that is no arrow, wherever the two stand.
            for later in range(place + 1, len(arrows)):
                several = list(one)
                several[later] = (1, 1)
                check_error(case, BadPair(later), call, *several)
    if len(arrows) > 1 and len(absent) > 1:
        check_error(case, NotArrow(*absent[1]), call, absent[1], absent[0], *arrows[2:])


def check_costs_named(case, call):
    """Fails if the call with costs for the states 0, 1, 2 does not check them."""
    for thing in (3, "012", {0: 1}, range(3), [], [[0, 1, 1]] * 2, [[0, 1, 1]] * 4):
        check_error(case, BadCosts(-1, -1), call, thing)
    for x in range(3):
        for thing in (None, 0, "012", {0, 1, 2}, [], [0, 0], [0, 0, 0, 0]):
            costs = [[0, 1, 2], [3, 0, -4], [5, 6, 0]]
            costs[x] = thing
            check_error(case, BadCosts(x, -1), call, costs)
            check_error(case, BadCosts(x, -1), call, tuple(costs[:x]) + (thing,) * (3 - x))
        for y in range(3):
            for thing in (True, False, None, "1", 1.0, (1,), *([1, -1] if x == y else [])):
                costs = [[0, 1, 2], [3, 0, -4], [5, 6, 0]]
                costs[x][y] = thing
                costs[x][y + 1:] = [None] * (2 - y)
                check_error(case, BadCosts(x, y), call, costs)


def check_aims_named(case, call):
    """Fails if the call with an aim for the states 0, 1, 2 does not check it."""
    for thing in (True, False, -1, 3, None, "0", (0,)):
        check_error(case, BadState(0), call, Ratio(thing, 1))
        check_error(case, BadState(0), call, Ratio(thing, thing))
        check_error(case, BadState(1), call, Ratio(1, thing))
    check_error(case, SameState(0, 1), call, Ratio(2, 2))
    check_rows_named(case, lambda row: call(Mean(row)))
    for costs in ([[0] * 3] * 3, None):
        check_rows_named(case, lambda row: call(Cost(row, costs)))
    check_costs_named(case, lambda costs: call(Cost([1, 2, 3], costs)))


def check_new_list(case, call, *args):
    """Fails if the call does not return a new list each time, or if a change of one changes a later one."""
    first = call(*args)
    case.assertIs(type(first), list)
    kept = list(first)
    first.append("changed")
    case.assertEqual(call(*args), kept)
    case.assertIsNot(call(*args), call(*args))


def shape_of(table):
    return (table.size, tuple(table.arrows()))


def of_mask(size, mask):
    """The table with rate 1 at the pairs whose bit is set."""
    rows = [[0] * size for _ in range(size)]
    for place, (x, y) in enumerate(Table.pairs_of(size)):
        rows[x][y] = mask >> place & 1
    return Table(rows)


def all_shapes(size):
    return [of_mask(size, mask) for mask in range(2 ** (size * (size - 1)))]


def some_tables(size, many, seed):
    """Tables with few and with many arrows, joined or not, the same ones in each run."""
    number = seed
    tables = []
    for turn in range(many):
        rows = [[0] * size for _ in range(size)]
        for x, y in Table.pairs_of(size):
            number = (number * 6364136223846793005 + 1442695040888963407) % 2 ** 64
            if (number >> 40) % 8 < 2 + turn % 5:
                rows[x][y] = 1 + (number >> 50) % 9
        tables.append(Table(rows))
    return tables


def great(table):
    """The table with the same arrows and rates up to some hundred thousand millions."""
    return Table([[rate ** 12 for rate in row] for row in table.rows])


SMALL = all_shapes(2) + all_shapes(3)
TABLES = SMALL + some_tables(4, 60, 4) + some_tables(5, 25, 5)
CHAINS = [Chain(table.rows) for table in TABLES + some_tables(4, 90, 44) + some_tables(5, 40, 55) if is_joined(table)]


GREAT = [great(table) for table in some_tables(3, 8, 33) + some_tables(4, 8, 444)]
MIXED = SMALL[::3] + TABLES[68::4] + GREAT


def complete(size):
    return Chain([[1 if x != y else 0 for y in range(size)] for x in range(size)])


def empty(size):
    return Table([[0] * size for _ in range(size)])


# The definitions of the document, tried out on all sequences of states.


WALKS = {}


def slow_walks(table, x, y):
    key = (shape_of(table), x, y)
    if key not in WALKS:
        WALKS[key] = all_walks(table, x, y)
    return WALKS[key]


def all_walks(table, x, y):
    if x == y:
        return [(x,)]
    others = [z for z in range(table.size) if z not in (x, y)]
    found = []
    for many in range(len(others) + 1):
        for middle in permutations(others, many):
            walk = (x,) + middle + (y,)
            if all(table.rows[a][b] > 0 for a, b in zip(walk, walk[1:])):
                found.append(walk)
    return sorted(found)


def slow_rings(table):
    found = []
    for many in range(2, table.size + 1):
        for ring in permutations(range(table.size), many):
            if ring[0] == min(ring) and all(table.rows[a][b] > 0 for a, b in ring_arrows(ring)):
                found.append(ring)
    return sorted(found)


def ring_arrows(ring):
    return list(zip(ring, ring[1:] + ring[:1]))


def slow_trees(table, c):
    entries = [[x] if x == c else [y for y in range(table.size) if table.rows[x][y] > 0] for x in range(table.size)]
    return [tree for tree in product(*entries) if all(leads_to(tree, x, c) for x in range(table.size))]


def leads_to(tree, x, c):
    for _ in tree:
        x = tree[x]
    return x == c


def lead_of(forest, x):
    while forest[x] != x:
        x = forest[x]
    return x


def weight_of(table, forest):
    weight = 1
    for x, y in enumerate(forest):
        if x != y:
            weight *= table.rows[x][y]
    return weight


FORESTS = {}


def slow_forests(table, roots):
    """All forests with these roots; they are kept, because many tests ask for the same ones."""
    key = (table.rows, tuple(sorted(roots)))
    if key not in FORESTS:
        entries = [[x] if x in roots else table.heads(x) for x in range(table.size)]
        FORESTS[key] = [forest for forest in product(*entries) if not has_ring(forest)]
    return FORESTS[key]


def has_ring(forest):
    """True if the arrows contain a ring: then some state is not at a root behind n steps."""
    ends = list(range(len(forest)))
    for _ in forest:
        ends = [forest[x] for x in ends]
    return any(forest[x] != x for x in ends)


WEIGHED = {}


def weighed(table, roots):
    """The weight and the tuple of the ends of each forest with these roots."""
    key = (table.rows, tuple(sorted(roots)))
    if key not in WEIGHED:
        WEIGHED[key] = [(weight_of(table, forest), tuple(lead_of(forest, x) for x in range(table.size)))
                        for forest in slow_forests(table, roots)]
    return WEIGHED[key]


def slow_sum(table, roots, ends=()):
    """The sum of point 16: over the forests with these roots in which x leads to c for each (x, c) of `ends`."""
    return sum(weight for weight, leads in weighed(table, roots) if all(leads[x] == c for x, c in ends))


def slow_row(table, roots, c):
    return tuple(slow_sum(table, roots, [(x, c)]) for x in range(table.size))


def slow_long(table, x, c):
    return sum(slow_sum(table, [c, z], [(x, z)]) for z in range(table.size) if z != c)


def slow_push(table, a, b, c, e):
    return slow_sum(table, [c, e], [(b, c)]) - slow_sum(table, [c, e], [(a, c)])


def slow_share_push(table, a, b, c):
    return sum(slow_push(table, a, b, c, e) for e in range(table.size) if e != c)


def slow_mean_push(table, a, b, row):
    return sum(entry * slow_share_push(table, a, b, c) for c, entry in enumerate(row))


def slow_trees_of(table):
    """The sums of the weights of the trees to all states."""
    return [slow_sum(table, [x]) for x in range(table.size)]


def slow_held(table, arrows, c):
    """The sum of the weights of the trees to c that have all these arrows."""
    return sum(weight_of(table, tree) for tree in slow_forests(table, [c]) if all(tree[a] == b for a, b in arrows))


def slow_held_total(table, arrows):
    return sum(slow_held(table, arrows, c) for c in range(table.size))


def sign(number):
    return (number > 0) - (number < 0)


def all_roots(size):
    """All sets of at least one state, each one once, not all of them ascending."""
    found = [[x for x in range(size) if mask >> x & 1] for mask in range(1, 2 ** size)]
    return [roots if sum(roots) % 2 else roots[::-1] for roots in found]


PARTED = {}


def slow_parted(table, x, y, z, u):
    key = (shape_of(table), x, y, z, u)
    if key not in PARTED:
        PARTED[key] = all_parted(table, x, y, z, u)
    return PARTED[key]


def all_parted(table, x, y, z, u):
    found = [(first, second) for first in slow_walks(table, x, y) for second in slow_walks(table, z, u)
             if not set(first) & set(second)]
    return min(found, key=lambda two: (len(two[0]), two[0], len(two[1]), two[1]), default=None)


def are_parted(table, x, y, z, u):
    """True if some walk from x to y and some walk from z to u have no common state."""
    return slow_parted(table, x, y, z, u) is not None


def slow_word(lifts, lowers):
    if lifts and lowers:
        return "mixed"
    return "lifts" if lifts else "lowers" if lowers else "still"


def slow_ratio_word(chain, a, b, c, e):
    return slow_word(are_parted(chain, b, c, a, e), are_parted(chain, b, e, a, c))


def slow_share_word(chain, a, b, c):
    up = any(a not in walk for walk in slow_walks(chain, b, c))
    down = any(b not in walk for walk in slow_walks(chain, a, c))
    return slow_word(up, down)


def several_rates(chain, many=6):
    """Chains of the same shape with rates near to one another and far from one another, the same ones in each run."""
    found = [chain]
    number = len(chain) * 1000 + chain.size
    for turn in range(many - 1):
        rows = [[0] * chain.size for _ in range(chain.size)]
        for x, y in chain.arrows():
            number = (number * 6364136223846793005 + 1442695040888963407) % 2 ** 64
            rows[x][y] = 1 + (number >> 40) % 9 if turn % 2 else 10 ** ((number >> 40) % 9)
        found.append(Chain(rows))
    return found


def one_of_each_shape(chains):
    found = {}
    for chain in chains:
        found.setdefault(shape_of(chain), chain)
    return sorted(found.values(), key=lambda chain: chain.size)


SHAPES = one_of_each_shape(CHAINS)


def some_notes(chains, seed):
    """Notes with few worlds and a low at each rate of a chain; pairs that are no arrows may be unseen, too."""
    number = seed
    found = []
    for turn, chain in enumerate(chains):
        highs = [list(row) for row in chain.rows]
        many = 1
        pairs = chain.pairs_of(chain.size)
        start = turn * 5 % len(pairs)
        for x, y in pairs[start:] + pairs[:start]:
            number = (number * 6364136223846793005 + 1442695040888963407) % 2 ** 64
            width = 1 + (number >> 50) % 3
            if (number >> 40) % 7 < turn % 7 and many * (width + 1) <= MOST_WORLDS:
                highs[x][y] += width
                many *= width + 1
        found.append(Notes(chain.rows, highs))
    return found


MOST_WORLDS = 48
# The first two have no pair that is seen.
NOTES = [Notes([[0, 1], [1, 0]], [[0, 4], [3, 0]]),
         Notes([[0, 1, 0], [0, 0, 1], [1, 0, 0]], [[0, 2, 1], [1, 0, 2], [2, 1, 0]])]
NOTES += some_notes(CHAINS[:19] * 2 + CHAINS[19:124:4] + CHAINS[95:], 7)


def drawn_notes(size, many, seed):
    """Notes on a ring and some other pairs, about a third of which are unseen, the same ones in each run."""
    number = seed
    found = []
    for turn in range(many):
        lows = [[0] * size for _ in range(size)]
        highs = [[0] * size for _ in range(size)]
        for x, y in Table.pairs_of(size):
            number = (number * 6364136223846793005 + 1442695040888963407) % 2 ** 64
            kind, low, width = (number >> 40) % 10, (number >> 44) % 3, (number >> 50) % 4
            if y == (x * 3 + 1 + turn) % size or y == (x + 1) % size or kind == 0:
                lows[x][y] = 1 + low
            highs[x][y] = lows[x][y] + (1 + width if kind in (1, 2, 3) else 0)
        found.append(Notes(lows, highs))
    return found


def slow_worlds(notes):
    """All tables that agree with the notes, ascending by their rows."""
    size = notes.size
    choices = [range(notes.lows.rows[x][y], notes.highs.rows[x][y] + 1) for x in range(size) for y in range(size)]
    return [Chain([rates[x * size:(x + 1) * size] for x in range(size)]) for rates in product(*choices)]


def slow_pair(aim, table):
    """The two integers of point 92."""
    sums = slow_trees_of(table)
    if isinstance(aim, Ratio):
        return (sums[aim.over], sums[aim.under])
    u = sum(entry * number for entry, number in zip(aim.row, sums))
    if isinstance(aim, Cost):
        u += sum(aim.costs[x][y] * sums[x] * table.rows[x][y] for x, y in table.pairs_of(table.size))
    return (u, sum(sums))


def slow_aim_push(aim, table, a, b):
    """The push of point 93."""
    if isinstance(aim, Ratio):
        return slow_push(table, a, b, aim.over, aim.under)
    if isinstance(aim, Mean):
        return slow_mean_push(table, a, b, aim.row)
    row = [aim.row[x] + sum(aim.costs[x][y] * table.rows[x][y] for y in range(table.size)) for x in range(table.size)]
    return slow_mean_push(table, a, b, row) + aim.costs[a][b] * sum(slow_trees_of(table))


def aims_for(size):
    """Ratios, means and costs for tables of this size; some rows have equal entries, some costs are all 0."""
    costs = [[0 if x == y else (3 * x + 5 * y) % 7 - 3 for y in range(size)] for x in range(size)]
    zeros = [[0] * size for _ in range(size)]
    return [Ratio(0, size - 1), Ratio(size - 1, size // 2 - 1), Mean([1] + [0] * (size - 1)), Mean([4] * size),
            Mean([3, -1, 4, -1, 5][:size]), Cost([0] * size, costs), Cost([-2, 7, 1, 8, -2][:size], costs),
            Cost([5, 0, -1, 2, 2][:size], zeros)]


def all_lots(size):
    return [[x for x in range(size) if mask >> x & 1] for mask in range(1, 2 ** size - 1)]


def slow_room(notes, row, states):
    """The room of point 108."""
    outside = [y for y in range(notes.size) if y not in states]
    return (sum(row[y] * notes.highs.rows[y][x] for y in outside for x in states)
            - sum(row[x] * notes.lows.rows[x][y] for x in states for y in outside))


def is_share_row_of(table, row):
    """True if the tree sums of the table stand to each other as the row."""
    sums = slow_trees_of(table)
    return all(sums[x] * row[y] == sums[y] * row[x] for x in range(table.size) for y in range(table.size))


def is_balanced_at(table, row):
    """True if a chain has the row, told without trees: at each state as much goes out as comes in."""
    states = range(table.size)
    return all(row[x] * sum(table.rows[x]) == sum(row[y] * table.rows[y][x] for y in states) for x in states)


def is_scaled_world(notes, scaled):
    """True for a tuple of a scale and a Chain with each rate in its stretch, times the scale."""
    scale, table = scaled
    return (type(scaled), type(scale), type(table)) == (tuple, int, Chain) and scale >= 1 and all(
        scale * notes.lows.rows[x][y] <= table.rows[x][y] <= scale * notes.highs.rows[x][y]
        for x, y in table.pairs_of(notes.size))


def share_rows_for(notes):
    """Share rows: those of some worlds, sums of them, others that are reached or not, one with equal entries."""
    states = range(notes.size)
    ends = [notes.lows, notes.highs, notes.world(notes.unseen()[::2])]
    found = [slow_lowest_row(world) for world in ends]
    found.append(tuple(one + other for one, other in zip(found[0], found[1])))
    found += [(1,) * notes.size, tuple(1 + (3 * x) % 5 for x in states), tuple(notes.size - x for x in states)]
    return list(dict.fromkeys(found))


def slow_lowest_row(table):
    sums = slow_trees_of(table)
    return tuple(number // gcd(*sums) for number in sums)


def slow_currents(notes, row):
    """All fitting currents of the row, each one as a tuple of rows."""
    size = notes.size
    choices = [range(row[x] * notes.lows.rows[x][y], row[x] * notes.highs.rows[x][y] + 1)
               for x in range(size) for y in range(size)]
    found = []
    for numbers in product(*choices):
        lines = tuple(numbers[x * size:(x + 1) * size] for x in range(size))
        if all(sum(lines[x]) == sum(line[x] for line in lines) for x in range(size)):
            found.append(lines)
    return found


def currents_number(notes, row):
    """The number of tries that `slow_currents` makes."""
    number = 1
    for x, y in notes.lows.pairs_of(notes.size):
        number *= row[x] * (notes.highs.rows[x][y] - notes.lows.rows[x][y]) + 1
    return number


def costs_for(size, turn):
    """Costs of either sign, costs that are all 0, rises of heights, and costs that are rises but for one pair."""
    heights = [3, -1, 4, 0, 5, -2, 6, 1][:size]
    rises = [[heights[y] - heights[x] for y in range(size)] for x in range(size)]
    if turn % 5 == 1:
        return [[0] * size for _ in range(size)]
    if turn % 5 == 2:
        return rises
    if turn % 5 == 3:
        rises[0][1] += 2
        return rises
    spread = 4 if turn % 5 == 0 else 1
    return [[0 if x == y else (3 * x + 5 * y + turn) % 7 - spread for y in range(size)] for x in range(size)]


def slow_cost(costs, ring):
    return sum(costs[x][y] for x, y in ring_arrows(ring))


def slow_carried(table, ring):
    """What the ring carries: its weight times the sum of the forests whose roots are its states."""
    weight = slow_sum(table, ring)
    for x, y in ring_arrows(ring):
        weight *= table.rows[x][y]
    return weight


def slow_pass(table, costs):
    """PASS(k) of point 122, by the currents."""
    sums = slow_trees_of(table)
    return sum(costs[x][y] * sums[x] * table.rows[x][y] for x, y in table.pairs_of(table.size))


def slow_ring_word(numbers):
    """The ring word of numbers that belong to the rings of a chain."""
    above, below = any(number > 0 for number in numbers), any(number < 0 for number in numbers)
    if above and below:
        return "mixed"
    return "above" if above else "below" if below else "still"


def slow_watched_arrows(chain, states):
    """The pairs of watched states between which a walk leads whose other states are not watched."""
    return [(x, y) for x in states for y in states if x != y
            and any(not set(walk[1:-1]) & set(states) for walk in slow_walks(chain, x, y))]
