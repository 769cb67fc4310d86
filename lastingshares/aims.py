"""Aims: ratios, means and costs, which are to be great or small."""

from lastingshares.errors import BadNumber, NoTree
from lastingshares.longs import weighted_longs
from lastingshares.numbers import check_states, cost_rows, fraction, is_list, row_of
from lastingshares.pushes import push_rows
from lastingshares.texts import number_text
from lastingshares.trees import tree_row, tree_total


class Aim:
    """The base class of the aims. Each other aim gives two integers for a table, and a push for each of its pairs."""

    WORD = "aim"

    def check(self, size):
        """Returns None: this aim fits tables of every size."""
        return None

    def word(self):
        """Returns the aim as a string."""
        return self.WORD

    def __call__(self, table):
        return defined_fraction(self.pair_in(table))


class Ratio(Aim):
    """The ratio of the shares of two states."""

    WORD = "ratio"

    def __init__(self, over, under):
        self.over = over
        self.under = under

    def check(self, size):
        """Raises an error if the aim does not fit tables of this size."""
        check_states(size, (self.over, self.under), ((0, 1),))

    def pair_in(self, table):
        """Returns the tuple of the two integers of the aim in the table."""
        self.check(table.size)
        row = tree_row(table)
        return (row[self.over], row[self.under])

    def pushes_in(self, table):
        """Returns the pushes of the aim at all pairs, row by row."""
        return push_rows(table, self.over, self.under)

    def push_at(self, table, a, b):
        """Returns the push of the aim at the pair ab."""
        return checked_push(self, table, a, b)

    def word(self):
        """Returns the aim as a string."""
        return f"{self.WORD} {self.over} {self.under}"

    def __call__(self, table):
        return defined_fraction(self.pair_in(table))

    def __eq__(self, other):
        return isinstance(other, Ratio) and self.over == other.over and self.under == other.under


class Mean(Aim):
    """The mean of a row."""

    WORD = "mean"

    def __init__(self, row):
        self.row = as_tuple(row)

    def check(self, size):
        """Raises an error if the aim does not fit tables of this size."""
        row_of(size, self.row)

    def pair_in(self, table):
        """Returns the tuple of the two integers of the aim in the table."""
        self.check(table.size)
        return mean_pair(table, self.row)

    def pushes_in(self, table):
        """Returns the pushes of the aim at all pairs, row by row."""
        return mean_pushes(table, self.row)

    def push_at(self, table, a, b):
        """Returns the push of the aim at the pair ab."""
        return checked_push(self, table, a, b)

    def word(self):
        """Returns the aim as a string."""
        return row_word(self.WORD, self.row)

    def __call__(self, table):
        return defined_fraction(self.pair_in(table))

    def __eq__(self, other):
        return isinstance(other, Mean) and self.row == other.row


class Cost(Aim):
    """The mean of what the states cost by a row, and of what the arrows cost that are taken."""

    WORD = "cost"

    def __init__(self, row, costs):
        self.row = as_tuple(row)
        self.costs = tuple([as_tuple(line) for line in costs]) if is_list(costs) else costs

    def check(self, size):
        """Raises an error if the aim does not fit tables of this size."""
        row_of(size, self.row)
        cost_rows(size, self.costs)

    def pair_in(self, table):
        """Returns the tuple of the two integers of the aim in the table."""
        self.check(table.size)
        return mean_pair(table, self.state_costs(table))

    def pushes_in(self, table):
        """Returns the pushes of the aim at all pairs, row by row."""
        total = tree_total(table)
        pushes = mean_pushes(table, self.state_costs(table))
        return tuple([
            tuple([number + cost * total for number, cost in zip(row, line)]) for row, line in zip(pushes, self.costs)
        ])

    def push_at(self, table, a, b):
        """Returns the push of the aim at the pair ab."""
        return checked_push(self, table, a, b)

    def state_costs(self, table):
        """Returns for each state its entry in the row and what its arrows cost, as a tuple."""
        return tuple([
            entry + sum([cost * rate for cost, rate in zip(line, rates)])
            for entry, line, rates in zip(self.row, self.costs, table.rows)
        ])

    def word(self):
        """Returns the aim as a string, without the costs."""
        return row_word(self.WORD, self.row)

    def __call__(self, table):
        return defined_fraction(self.pair_in(table))

    def __eq__(self, other):
        return isinstance(other, Cost) and self.row == other.row and self.costs == other.costs


def of_scaled(aim, scaled):
    """Returns the fraction of a scaled world."""
    scale, table = scaled
    if not isinstance(aim, Cost):
        return aim(table)
    aim.check(table.size)
    # The table has `scale` times the rates, and so `scale` times what the arrows cost.
    u, v = mean_pair(table, Cost([scale * entry for entry in aim.row], aim.costs).state_costs(table))
    return defined_fraction((u, scale * v))


def check_costless(aim, size):
    """Raises an error if the aim does not fit tables of this size, or if it is neither a Ratio nor a Mean."""
    aim.check(size)
    if not isinstance(aim, Ratio) and not isinstance(aim, Mean):
        raise BadNumber("aim")


def as_tuple(thing):
    """Returns a list or tuple as a tuple, and anything else as it is."""
    return tuple(thing) if is_list(thing) else thing


def defined_fraction(pair):
    """Returns the two integers as a fraction in lowest terms."""
    u, v = pair
    if v == 0:
        raise NoTree()
    return fraction(u, v)


def mean_pair(table, row):
    """Returns the sum of the tree sums, each one times its entry in the row, and their sum."""
    sums = tree_row(table)
    return (sum([entry * number for entry, number in zip(row, sums)]), sum(sums))


def mean_pushes(table, row):
    """Returns the pushes of all pairs ab on the mean of the row: entry b of row a."""
    longs = weighted_longs(table, row)
    return tuple([tuple([longs[a] - longs[b] for b in range(table.size)]) for a in range(table.size)])


def checked_push(aim, table, a, b):
    """Returns the push of the aim at the pair ab."""
    aim.check(table.size)
    check_states(table.size, (a, b), ((0, 1),))
    return aim.pushes_in(table)[a][b]


def row_word(word, row):
    """Returns the word and the numbers of the row, with a space between each two."""
    # Rows may be heights that the program returned, which have no greatest length.
    return " ".join([word] + [number_text(entry) for entry in row])
