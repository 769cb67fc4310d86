"""What several tests use: tables to try, slow definitions to compare with, and a check of errors."""

from itertools import permutations, product

from lastingshares.chains import Chain, is_joined
from lastingshares.errors import ChainError
from lastingshares.tables import Table


def check_error(case, expected, call, *args, **named):
    """Fails if the call does not raise just this error, with just these attributes."""
    with case.assertRaises(ChainError) as caught:
        call(*args, **named)
    case.assertIs(type(caught.exception), type(expected))
    case.assertEqual(vars(caught.exception), vars(expected))


def check_new_list(case, call, *args):
    """Fails if the call does not return a new list each time, or if a change of one changes a later one."""
    first = call(*args)
    case.assertIs(type(first), list)
    kept = list(first)
    first.append("changed")
    case.assertEqual(call(*args), kept)
    case.assertIsNot(call(*args), call(*args))


def of_mask(size, mask):
    """The table with rate 1 at the pairs whose bit is set."""
    rows = [[0] * size for _ in range(size)]
    for place, (x, y) in enumerate(Table.pairs_of(size)):
        rows[x][y] = mask >> place & 1
    return Table(rows)


def all_shapes(size):
    return [of_mask(size, mask) for mask in range(2 ** (size * (size - 1)))]


def some_tables(size, many, seed):
    """Tables with few and with many arrows, joined or not, the same ones in each run."""
    number = seed
    tables = []
    for turn in range(many):
        rows = [[0] * size for _ in range(size)]
        for x, y in Table.pairs_of(size):
            number = (number * 6364136223846793005 + 1442695040888963407) % 2 ** 64
            if (number >> 40) % 8 < 2 + turn % 5:
                rows[x][y] = 1 + (number >> 50) % 9
        tables.append(Table(rows))
    return tables


SMALL = all_shapes(2) + all_shapes(3)
TABLES = SMALL + some_tables(4, 60, 4) + some_tables(5, 25, 5)
CHAINS = [Chain(table.rows) for table in TABLES + some_tables(4, 90, 44) + some_tables(5, 40, 55) if is_joined(table)]


def complete(size):
    return Chain([[1 if x != y else 0 for y in range(size)] for x in range(size)])


def empty(size):
    return Table([[0] * size for _ in range(size)])


# The definitions of the document, tried out on all sequences of states.


def slow_walks(table, x, y):
    if x == y:
        return [(x,)]
    others = [z for z in range(table.size) if z not in (x, y)]
    found = []
    for many in range(len(others) + 1):
        for middle in permutations(others, many):
            walk = (x,) + middle + (y,)
            if all(table.rows[a][b] > 0 for a, b in zip(walk, walk[1:])):
                found.append(walk)
    return sorted(found)


def slow_rings(table):
    found = []
    for many in range(2, table.size + 1):
        for ring in permutations(range(table.size), many):
            if ring[0] == min(ring) and all(table.rows[a][b] > 0 for a, b in ring_arrows(ring)):
                found.append(ring)
    return sorted(found)


def ring_arrows(ring):
    return list(zip(ring, ring[1:] + ring[:1]))


def slow_trees(table, c):
    entries = [[x] if x == c else [y for y in range(table.size) if table.rows[x][y] > 0] for x in range(table.size)]
    return [tree for tree in product(*entries) if all(leads_to(tree, x, c) for x in range(table.size))]


def leads_to(tree, x, c):
    for _ in tree:
        x = tree[x]
    return x == c


def slow_parted(table, x, y, z, u):
    found = [(first, second) for first in slow_walks(table, x, y) for second in slow_walks(table, z, u)
             if not set(first) & set(second)]
    return min(found, key=lambda two: (len(two[0]), two[0], len(two[1]), two[1]), default=None)


def all_lots(size):
    return [[x for x in range(size) if mask >> x & 1] for mask in range(1, 2 ** size - 1)]
