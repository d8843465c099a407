"""Rows joined: whether one goes on behind the other, and bits that go on."""

from meanbits.errors import NoShare
from meanbits.rounds import start_span
from meanbits.steady import steady


def goes_on(row, other, share):
    """Whether some start makes both of the share, one behind the other."""
    low, high = start_span(row + other, share)
    return low < high


def need_share(row, share):
    """Refuse a share that does not make the row."""
    if not goes_on(row, "", share):
        raise NoShare("the share does not make the row")


def gap(row, other, share):
    """How many first bits of other must be left out at least, so that the rest goes on behind row."""
    need_share(row, share)
    many = 0
    while not goes_on(row, other[many:], share):
        many += 1
    return many


def sewn(row, many, share):
    """The row and so many bits more that go on, by the least start that makes it."""
    need_share(row, share)
    start = start_span(row, share)[0]
    return steady(share, start, len(row) + many)
