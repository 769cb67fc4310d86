"""What several tests use: tables to try, slow definitions to compare with, and a check of errors."""

from itertools import permutations, product

from lastingshares.chains import Chain, is_joined
from lastingshares.errors import BadRow, BadSet, BadState, ChainError, SameState
from lastingshares.tables import Table


def check_error(case, expected, call, *args, **named):
    """Fails if the call does not raise just this error, with just these attributes."""
    with case.assertRaises(ChainError) as caught:
        call(*args, **named)
    case.assertIs(type(caught.exception), type(expected))
    case.assertEqual(vars(caught.exception), vars(expected))


def check_states_named(case, call, table, args, *, same=(), at=None):
    """Fails if the call does not check its state arguments, which stand at these places of `args`, in order.

    The other arguments may be wrong, too: the errors of the states come first.
    """
    places = list(range(len(args))) if at is None else list(at)
    for place, index in enumerate(places):
        for thing in (True, False, -1, table.size, None, "0", (0,)):
            one, several = list(args), list(args)
            one[index] = thing
            for later in places[place:]:
                several[later] = thing
            check_error(case, BadState(place), call, table, *one)
            check_error(case, BadState(place), call, table, *several)
    for first, second in same:
        equal = list(args)
        equal[places[second]] = equal[places[first]]
        check_error(case, SameState(first, second), call, table, *equal)


def check_sets_named(case, call, *, least):
    """Fails if the call with a set of the states 0, 1, 2 does not check it; it needs `least` states or more."""
    for thing in (None, 0, True, "01", {0}, {0: 1}, range(2)):
        check_error(case, BadSet(-1), call, thing)
    for thing in (True, False, -1, 3, None, "0", (0,)):
        check_error(case, BadSet(0), call, [thing])
        check_error(case, BadSet(1), call, (2, thing))
    check_error(case, BadSet(2), call, [1, 0, 1])
    check_error(case, BadSet(1), call, (1, 1, 5))
    for thing in ([], ()):
        if least > 0:
            check_error(case, BadSet(-2), call, thing)


def check_rows_named(case, call):
    """Fails if the call with a row for the states 0, 1, 2 does not check it."""
    for thing in (None, 3, "012", {0: 1, 1: 1, 2: 1}, {0, 1, 2}, range(3), [], [1, 1], (1, 1, 1, 1)):
        check_error(case, BadRow(-1), call, thing)
    for thing in (True, False, None, "1", (1,), 1.0):
        check_error(case, BadRow(0), call, [thing, 1, thing])
        check_error(case, BadRow(2), call, (1, 1, thing))


def check_new_list(case, call, *args):
    """Fails if the call does not return a new list each time, or if a change of one changes a later one."""
    first = call(*args)
    case.assertIs(type(first), list)
    kept = list(first)
    first.append("changed")
    case.assertEqual(call(*args), kept)
    case.assertIsNot(call(*args), call(*args))


def of_mask(size, mask):
    """The table with rate 1 at the pairs whose bit is set."""
    rows = [[0] * size for _ in range(size)]
    for place, (x, y) in enumerate(Table.pairs_of(size)):
        rows[x][y] = mask >> place & 1
    return Table(rows)


def all_shapes(size):
    return [of_mask(size, mask) for mask in range(2 ** (size * (size - 1)))]


def some_tables(size, many, seed):
    """Tables with few and with many arrows, joined or not, the same ones in each run."""
    number = seed
    tables = []
    for turn in range(many):
        rows = [[0] * size for _ in range(size)]
        for x, y in Table.pairs_of(size):
            number = (number * 6364136223846793005 + 1442695040888963407) % 2 ** 64
            if (number >> 40) % 8 < 2 + turn % 5:
                rows[x][y] = 1 + (number >> 50) % 9
        tables.append(Table(rows))
    return tables


def great(table):
    """The table with the same arrows and rates up to some hundred thousand millions."""
    return Table([[rate ** 12 for rate in row] for row in table.rows])


SMALL = all_shapes(2) + all_shapes(3)
TABLES = SMALL + some_tables(4, 60, 4) + some_tables(5, 25, 5)
CHAINS = [Chain(table.rows) for table in TABLES + some_tables(4, 90, 44) + some_tables(5, 40, 55) if is_joined(table)]


GREAT = [great(table) for table in some_tables(3, 8, 33) + some_tables(4, 8, 444)]
MIXED = SMALL[::3] + TABLES[68::4] + GREAT


def complete(size):
    return Chain([[1 if x != y else 0 for y in range(size)] for x in range(size)])


def empty(size):
    return Table([[0] * size for _ in range(size)])


# The definitions of the document, tried out on all sequences of states.


def slow_walks(table, x, y):
    if x == y:
        return [(x,)]
    others = [z for z in range(table.size) if z not in (x, y)]
    found = []
    for many in range(len(others) + 1):
        for middle in permutations(others, many):
            walk = (x,) + middle + (y,)
            if all(table.rows[a][b] > 0 for a, b in zip(walk, walk[1:])):
                found.append(walk)
    return sorted(found)


def slow_rings(table):
    found = []
    for many in range(2, table.size + 1):
        for ring in permutations(range(table.size), many):
            if ring[0] == min(ring) and all(table.rows[a][b] > 0 for a, b in ring_arrows(ring)):
                found.append(ring)
    return sorted(found)


def ring_arrows(ring):
    return list(zip(ring, ring[1:] + ring[:1]))


def slow_trees(table, c):
    entries = [[x] if x == c else [y for y in range(table.size) if table.rows[x][y] > 0] for x in range(table.size)]
    return [tree for tree in product(*entries) if all(leads_to(tree, x, c) for x in range(table.size))]


def leads_to(tree, x, c):
    for _ in tree:
        x = tree[x]
    return x == c


def lead_of(forest, x):
    while forest[x] != x:
        x = forest[x]
    return x


def weight_of(table, forest):
    weight = 1
    for x, y in enumerate(forest):
        if x != y:
            weight *= table.rows[x][y]
    return weight


FORESTS = {}


def slow_forests(table, roots):
    """All forests with these roots; they are kept, because many tests ask for the same ones."""
    key = (table.rows, tuple(sorted(roots)))
    if key not in FORESTS:
        entries = [[x] if x in roots else table.heads(x) for x in range(table.size)]
        FORESTS[key] = [forest for forest in product(*entries) if not has_ring(forest)]
    return FORESTS[key]


def has_ring(forest):
    """True if the arrows contain a ring: then some state is not at a root behind n steps."""
    ends = list(range(len(forest)))
    for _ in forest:
        ends = [forest[x] for x in ends]
    return any(forest[x] != x for x in ends)


def slow_sum(table, roots, ends=()):
    """The sum of point 16: over the forests with these roots in which x leads to c for each (x, c) of `ends`."""
    return sum(weight_of(table, forest) for forest in slow_forests(table, roots)
               if all(lead_of(forest, x) == c for x, c in ends))


def slow_row(table, roots, c):
    return tuple(slow_sum(table, roots, [(x, c)]) for x in range(table.size))


def slow_long(table, x, c):
    return sum(slow_sum(table, [c, z], [(x, z)]) for z in range(table.size) if z != c)


def slow_push(table, a, b, c, e):
    return slow_sum(table, [c, e], [(b, c)]) - slow_sum(table, [c, e], [(a, c)])


def all_roots(size):
    """All sets of at least one state, each one once, not all of them ascending."""
    found = [[x for x in range(size) if mask >> x & 1] for mask in range(1, 2 ** size)]
    return [roots if sum(roots) % 2 else roots[::-1] for roots in found]


def slow_parted(table, x, y, z, u):
    found = [(first, second) for first in slow_walks(table, x, y) for second in slow_walks(table, z, u)
             if not set(first) & set(second)]
    return min(found, key=lambda two: (len(two[0]), two[0], len(two[1]), two[1]), default=None)


def all_lots(size):
    return [[x for x in range(size) if mask >> x & 1] for mask in range(1, 2 ** size - 1)]
