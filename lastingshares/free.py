"""Rates that shares leave free, and share rows that told rates leave open."""

from lastingshares.chains import arrow_list, pair_list
from lastingshares.currents import chain_currents, scaled_of
from lastingshares.errors import NotReached
from lastingshares.rings import steps_round
from lastingshares.rooms import share_row
from lastingshares.tables import Table
from lastingshares.walks import distances_to, has_walk, shortest_walk


def has_closed_row(size, pairs):
    """Returns True if the pairs hold a closed row."""
    return closing_place(size, pair_list(size, pairs)) is not None


def shares_tell(chain, arrows):
    """Returns False if other rates at these arrows alone give the same shares, otherwise True."""
    return not has_closed_row(chain.size, arrow_list(chain, arrows))


def other_rates(chain, arrows):
    """Returns a scale and a Chain that has the same shares by other rates at these arrows; None if there is none."""
    pairs = arrow_list(chain, arrows)
    place = closing_place(chain.size, pairs)
    if place is None:
        return None
    row, currents = chain_currents(chain)
    # Twice the currents are at least 2, so each one that becomes less stays above 0.
    lines = [[2 * number for number in line] for line in currents]
    for x, y in closed_row(chain.size, pairs[:place], pairs[place]):
        if (x, y) in pairs[:place + 1]:
            lines[x][y] = lines[x][y] + 1
        else:
            lines[y][x] = lines[y][x] - 1
    scale, found = scaled_of(row, lines)
    return (2 * scale, found)


def stuck_arrow(chain, arrows):
    """Returns the least of these arrows, which are told, from whose head no other arrows lead back; None if none is."""
    told = arrow_list(chain, arrows)
    others = without_arrows(chain, told)
    for a, b in told:
        if not has_walk(others, b, a):
            return (a, b)
    return None


def leaves_open(chain, arrows):
    """Returns True if every share row can be had while these arrows are told."""
    return stuck_arrow(chain, arrows) is None


def rates_for(chain, arrows, row):
    """Returns a scale and a Chain of the same shape with the row and the told rates at these arrows, as a tuple."""
    told = arrow_list(chain, arrows)
    entries = share_row(chain.size, row)
    stuck = stuck_arrow(chain, told)
    if stuck is not None:
        raise NotReached(lot_before(chain, told, stuck))
    others = without_arrows(chain, told)
    lines = ring_numbers(chain, others)
    # No told arrow is on more of these rings than there are other arrows, so what is left for it is not below 0.
    times = len(chain)
    for a, b in told:
        left = times * entries[a] * chain.rows[a][b] - lines[a][b]
        lines = with_ring(lines, shortest_walk(others, b, a), left)
    scale, found = scaled_of(entries, lines)
    return (times * scale, found)


def barred_row(chain, arrows):
    """Returns a lot and a share row that cannot be had because of it, as a tuple; None if no arrow is stuck."""
    told = arrow_list(chain, arrows)
    stuck = stuck_arrow(chain, told)
    if stuck is None:
        return None
    a, b = stuck
    lot = lot_before(chain, told, stuck)
    into = sum([chain.rows[x][y] for x, y in told if x not in lot and y in lot])
    return (lot, tuple([into // chain.rows[a][b] + 1 if x == a else 1 for x in range(chain.size)]))


def closing_place(size, pairs):
    """Returns the place of the first pair that joins two states which the pairs before it join; None if none does."""
    parts = list(range(size))
    for place, (x, y) in enumerate(pairs):
        if parts[x] == parts[y]:
            return place
        parts = [parts[x] if part == parts[y] else part for part in parts]
    return None


def closed_row(size, pairs, last):
    """Returns the steps of the closed row that the last pair makes with the others, its own step first."""
    x, y = last
    both = [[1 if (a, b) in pairs or (b, a) in pairs else 0 for b in range(size)] for a in range(size)]
    walk = shortest_walk(Table(both), y, x)
    return [last] + list(zip(walk, walk[1:]))


def without_arrows(chain, arrows):
    """Returns the Table without these arrows."""
    states = range(chain.size)
    return Table([[0 if (x, y) in arrows else chain.rows[x][y] for y in states] for x in states])


def lot_before(chain, told, stuck):
    """Returns the lot of the states from which arrows that are not told lead to the tail of the stuck arrow."""
    return tuple(sorted(distances_to(without_arrows(chain, told), stuck[0], ())))


def ring_numbers(chain, others):
    """Returns for each pair how many rings go along it, one ring of the chain for each arrow of the other table."""
    lines = [[0] * chain.size for _ in range(chain.size)]
    for x, y in others:
        lines = with_ring(lines, shortest_walk(chain, y, x), 1)
    return lines


def with_ring(lines, walk, number):
    """Returns the rows with the number added along the walk and along the pair from its end to its beginning."""
    found = [list(line) for line in lines]
    for x, y in steps_round(walk):
        found[x][y] = found[x][y] + number
    return found
