"""Tables: a rate for each pair of states."""

from lastingshares.errors import BadNumber, BadTable, OtherSize
from lastingshares.numbers import check_number, check_states, is_int, is_list, is_pair, is_size


class Table:
    """A table of 2 to 8 states. It never changes."""

    WORD = "table"

    def __init__(self, rows):
        self.rows = checked_rows(rows)
        self.size = len(self.rows)
        self._arrow_pairs = tuple([(x, y) for x, y in Table.pairs_of(self.size) if self.rows[x][y] > 0])

    @property
    def many(self):
        """The number of arrows."""
        return len(self._arrow_pairs)

    @staticmethod
    def pairs_of(size):
        """Returns the ascending list of all pairs of the states 0 .. size - 1."""
        return [(x, y) for x in range(size) for y in range(size) if x != y]

    def rate(self, x, y):
        """Returns the rate r(x,y)."""
        check_states(self.size, (x, y), ((0, 1),))
        return self.rows[x][y]

    def out_of(self, x):
        """Returns the sum of the rates of the arrows out of x."""
        check_states(self.size, (x,))
        return sum(self.rows[x])

    def heads(self, x):
        """Returns the ascending tuple of the heads of the arrows out of x."""
        check_states(self.size, (x,))
        return tuple([y for y, rate in enumerate(self.rows[x]) if rate > 0])

    def tails(self, y):
        """Returns the ascending tuple of the tails of the arrows into y."""
        check_states(self.size, (y,))
        return tuple([x for x, row in enumerate(self.rows) if row[y] > 0])

    def arrows(self):
        """Returns the ascending list of all arrows."""
        return list(self._arrow_pairs)

    def with_rate(self, x, y, rate):
        """Returns a new table with this rate at the pair xy."""
        return Table(rows_with_rate(self, x, y, rate))

    def times(self, x, number):
        """Returns a new table in which all rates out of x are multiplied by the number."""
        return Table(rows_times(self, x, number))

    def __iter__(self):
        return iter(self._arrow_pairs)

    def __len__(self):
        return len(self._arrow_pairs)

    def __contains__(self, x):
        return is_pair(self.size, x) and self.rows[x[0]][x[1]] > 0

    def __getitem__(self, at):
        x, y = at
        return self.rate(x, y)

    def __eq__(self, other):
        return isinstance(other, Table) and self.rows == other.rows

    def __add__(self, other):
        return Table(rows_added(self, other))

    def __mul__(self, other):
        return Table(rows_multiplied(self, other))

    def __invert__(self):
        return Table(rows_turned(self))


def summed(*tables):
    """Returns the sum of one or more tables; a Chain if all of them are Chains."""
    if len(tables) == 0:
        raise BadNumber("tables")
    total = tables[0] * 1
    for table in tables[1:]:
        total = total + table
    return total


def checked_rows(rows):
    """Returns the rows of a table as a tuple of tuples."""
    if not is_list(rows) or not is_size(len(rows)):
        raise BadTable(-1, -1)
    return tuple([checked_row(len(rows), x, row) for x, row in enumerate(rows)])


def checked_row(size, x, row):
    """Returns row x of a table as a tuple."""
    if not is_list(row) or len(row) != size:
        raise BadTable(x, -1)
    for y, rate in enumerate(row):
        if not is_int(rate) or rate < 0 or (x == y and rate > 0):
            raise BadTable(x, y)
    return tuple(row)


# A Table and a Chain make new ones of their own kind from the rows that the next functions return.


def rows_with_rate(table, x, y, rate):
    """Returns the rows of the table with this rate at the pair xy."""
    check_states(table.size, (x, y), ((0, 1),))
    check_number("rate", rate, 0)
    changed = table.rows[x][:y] + (rate,) + table.rows[x][y + 1:]
    return table.rows[:x] + (changed,) + table.rows[x + 1:]


def rows_times(table, x, number):
    """Returns the rows of the table with all rates out of x multiplied by the number."""
    check_states(table.size, (x,))
    check_number("number", number, 1)
    return scaled_rows(table, [number if z == x else 1 for z in range(table.size)])


def rows_multiplied(table, k):
    """Returns the rows of the table with all rates multiplied by k."""
    check_number("k", k, 1)
    return scaled_rows(table, [k] * table.size)


def scaled_rows(table, factors):
    """Returns the rows of the table with the rates out of each state multiplied by its factor."""
    return tuple([tuple([rate * factor for rate in row]) for row, factor in zip(table.rows, factors)])


def rows_added(table, other):
    """Returns the sums of the rates of two tables, as rows."""
    if table.size != other.size:
        raise OtherSize(other.size)
    return tuple([tuple([r + s for r, s in zip(row, line)]) for row, line in zip(table.rows, other.rows)])


def rows_turned(table):
    """Returns the rows of the turned table."""
    return tuple([tuple([row[x] for row in table.rows]) for x in range(table.size)])
