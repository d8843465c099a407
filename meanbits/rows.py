"""Rows: texts of the signs 0 and 1."""

from meanbits.checks import need_bits
from meanbits.errors import NoPlace
from meanbits.parts import part_of

OTHER_BIT = {"0": "1", "1": "0"}


def is_row(thing):
    """Whether it is a row."""
    return isinstance(thing, str) and all(sign in "01" for sign in thing)


def ones(row):
    """How many ones there are in the row."""
    return row.count("1")


def ones_in(row, one, other):
    """How many ones there are among the bits from one up to ahead of other."""
    return ones(row[one:other])


def flipped(row):
    """The row with each bit the other one."""
    return "".join([OTHER_BIT[bit] for bit in row])


def turned(row, places):
    """The row with the bits at these places the other ones."""
    bits = list(row)
    for place in places:
        if not 0 <= place < len(bits):
            raise NoPlace("the row has no bit at this place")
        bits[place] = OTHER_BIT[bits[place]]
    return "".join(bits)


def mean_of(row):
    """The ones by the bits, a part."""
    need_bits(row, 1)
    return part_of(ones(row), len(row))


def runs(row):
    """The list of pairs (bit, many) of alike bits side by side."""
    told = []
    first = 0
    for place in range(1, len(row) + 1):
        if place == len(row) or row[place] != row[first]:
            told.append((int(row[first]), place - first))
            first = place
    return told
