"""Exact fractions, and the checks of arguments that all modules share."""

from math import gcd, lcm

from lastingshares.errors import BadCosts, BadNumber, BadRow, BadSet, BadState, SameState

LEAST_SIZE = 2
MOST_SIZE = 8


def is_int(thing):
    """Returns True if the argument is an integer other than True and False."""
    return isinstance(thing, int) and not isinstance(thing, bool)


def is_list(thing):
    """Returns True if the argument is a list or tuple."""
    return isinstance(thing, (list, tuple))


def is_size(thing):
    """Returns True if a table may have this number of states."""
    return is_int(thing) and LEAST_SIZE <= thing <= MOST_SIZE


def is_state(size, thing):
    """Returns True if the argument is one of the states 0 .. size - 1."""
    return is_int(thing) and 0 <= thing < size


def is_pair(size, thing):
    """Returns True if the argument is a list or tuple of two different states."""
    if not is_list(thing) or len(thing) != 2:
        return False
    return is_state(size, thing[0]) and is_state(size, thing[1]) and thing[0] != thing[1]


def check_number(name, number, least):
    """Raises BadNumber(name) if the number is not an integer of at least `least`."""
    if not is_int(number) or number < least:
        raise BadNumber(name)


def check_fraction(u, v):
    """Raises BadNumber if u is not an integer or v is not an integer of at least 1."""
    if not is_int(u):
        raise BadNumber("u")
    check_number("v", v, 1)


def fraction(u, v):
    """Returns the fraction u : v in lowest terms, with a second part of at least 1."""
    if not is_int(u):
        raise BadNumber("u")
    if not is_int(v) or v == 0:
        raise BadNumber("v")
    # A divisor with the sign of v makes the second part positive.
    divisor = gcd(u, v) if v > 0 else -gcd(u, v)
    return (u // divisor, v // divisor)


def is_less(one, other):
    """Returns True if the first fraction is less than the second one."""
    return one[0] * other[1] < other[0] * one[1]


def sign_of(number):
    """Returns 1, 0 or -1 for a positive integer, 0, or a negative one."""
    if number > 0:
        return 1
    return -1 if number < 0 else 0


def common_multiple(row):
    """Returns the least common multiple of the integers of the row, which are at least 1."""
    common = 1
    for entry in row:
        common = lcm(common, entry)
    return common


def row_of(size, thing):
    """Returns a row of `size` integers as a tuple."""
    return row_at_least(size, thing, None)


def row_at_least(size, thing, least):
    """Returns a row of `size` integers, none below `least` if this is not None, as a tuple."""
    if not is_list(thing) or len(thing) != size:
        raise BadRow(-1)
    for place, entry in enumerate(thing):
        if not is_int(entry) or (least is not None and entry < least):
            raise BadRow(place)
    return tuple(thing)


def states_of(size, thing):
    """Returns a set of states as an ascending tuple; it may be empty."""
    if not is_list(thing):
        raise BadSet(-1)
    for place, entry in enumerate(thing):
        if not is_state(size, entry) or entry in thing[:place]:
            raise BadSet(place)
    return tuple(sorted(thing))


def lot_of(size, thing):
    """Returns a lot, a set that is neither empty nor has all states, as an ascending tuple."""
    lot = states_of(size, thing)
    if len(lot) == 0 or len(lot) == size:
        raise BadSet(-2)
    return lot


def check_states(size, states, unlike=()):
    """Raises an error if an entry is not a state, or if two entries that `unlike` names are equal."""
    for place, state in enumerate(states):
        if not is_state(size, state):
            raise BadState(place)
    for first, second in unlike:
        if states[first] == states[second]:
            raise SameState(first, second)


def cost_rows(size, thing):
    """Returns costs, `size` rows of `size` integers with 0 at each place (x, x), as a tuple of tuples."""
    if not is_list(thing) or len(thing) != size:
        raise BadCosts(-1, -1)
    return tuple([cost_row(size, x, row) for x, row in enumerate(thing)])


def cost_row(size, x, row):
    """Returns row x of costs as a tuple."""
    if not is_list(row) or len(row) != size:
        raise BadCosts(x, -1)
    for y, cost in enumerate(row):
        if not is_int(cost) or (x == y and cost != 0):
            raise BadCosts(x, y)
    return tuple(row)
