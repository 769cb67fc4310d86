"""Tables as texts, written and read line by line, and the rate table."""

from lastingshares.chains import Chain
from lastingshares.errors import BadText
from lastingshares.numbers import is_size
from lastingshares.tables import Table

DIGITS = "0123456789"
# Python refuses to turn some thousand digits into a number or back, so this is done in pieces of 50 digits.
PIECE = 50
BLOCK = 10 ** 50


def table_text(table):
    """Returns the table as a text."""
    lines = [f"states {table.size}"]
    for x, y in table:
        lines.append(f"{x} {y} {digits_of(table.rows[x][y])}")
    return "\n".join(lines)


def table_from(string):
    """Returns the Table that the text gives."""
    return Table(rows_from(string))


def chain_from(string):
    """Returns the Chain that the text gives."""
    return Chain(rows_from(string))


def rate_table(table):
    """Returns the rates as a text of n lines, right-justified in fields of one width."""
    states = range(table.size)
    entries = [["." if x == y else digits_of(table.rows[x][y]) for y in states] for x in states]
    width = max([len(entry) for line in entries for entry in line])
    return "\n".join([" ".join([entry.rjust(width) for entry in line]) for line in entries])


def rows_from(string):
    """Returns the rows of the table that the text gives."""
    lines = string.split("\n")
    size = size_from(lines[0])
    rows = [[0] * size for _ in range(size)]
    last = (-1, -1)
    for place, line in enumerate(lines[1:], start=1):
        x, y, rate = arrow_from(size, line, place)
        if (x, y) <= last:
            raise BadText(place)
        rows[x][y] = rate
        last = (x, y)
    return rows


def size_from(line):
    """Returns the number of states that line 0 gives."""
    words = line.split(" ")
    if len(words) != 2 or words[0] != "states" or not is_digits(words[1]):
        raise BadText(0)
    size = number_of(words[1])
    if not is_size(size):
        raise BadText(0)
    return size


def arrow_from(size, line, place):
    """Returns the two states and the rate that a later line gives, as a tuple."""
    words = line.split(" ")
    if len(words) != 3 or not all([is_digits(word) for word in words]):
        raise BadText(place)
    x, y, rate = [number_of(word) for word in words]
    if x >= size or y >= size or x == y or rate == 0:
        raise BadText(place)
    return (x, y, rate)


def is_digits(word):
    """Returns True if the word is a number of the digits 0 to 9 without leading zeros."""
    if word == "" or (word[0] == "0" and word != "0"):
        return False
    # The tests of strings take the digits of other scripts too.
    return all([letter in DIGITS for letter in word])


def number_of(word):
    """Returns the number that the digits of the word give."""
    first = len(word) % PIECE
    number = int("0" + word[:first])
    for start in range(first, len(word), PIECE):
        number = number * BLOCK + int(word[start:start + PIECE])
    return number


def number_text(number):
    """Returns an integer as digits, behind a minus sign if it is below 0."""
    return "-" + digits_of(-number) if number < 0 else digits_of(number)


def digits_of(number):
    """Returns the digits of a number of at least 0."""
    pieces = []
    while number >= BLOCK:
        number, rest = divmod(number, BLOCK)
        pieces.append(str(rest).zfill(PIECE))
    pieces.append(str(number))
    return "".join(pieces[::-1])
