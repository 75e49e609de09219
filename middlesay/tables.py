"""The tables of sayings, as whole numbers."""

from middlesay.sayings import names_of, value_of
from middlesay.words import refuse_lacking


def column(place, full):
    """The rows, as bits, in which the name at this place is true: bit r where bit place of r is 1."""
    width = 1 << place
    # Rows without the bit and rows with it take turns, width of each at a time.
    rows = ((1 << width) - 1) << width
    told = 2 * width
    while told < full.bit_length():
        rows |= rows << told
        told *= 2
    return rows


def table(saying, names):
    """The whole number whose bit r tells whether the saying holds in row r of the names."""
    refuse_lacking(names_of(saying), names)
    full = (1 << (1 << len(names))) - 1
    values = {name: column(place, full) for place, name in enumerate(names)}
    return value_of(saying, values, full)


def same(saying, other):
    """Whether two sayings hold in the same rows of all names of both."""
    names = sorted(set(names_of(saying) + names_of(other)))
    return table(saying, names) == table(other, names)


def row_of(number, names):
    """The row of this number: the name at place k is true where bit k of the number is 1."""
    return {name: number >> place & 1 == 1 for place, name in enumerate(names)}
