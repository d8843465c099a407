"""Mending: which one bit of a row was turned."""

from meanbits.checks import need_bits
from meanbits.reading import read_exactly
from meanbits.rows import turned


def mended(row, most):
    """The share of a below to most that makes the row, maybe with one bit turned, and that bit's place."""
    need_bits(row, max(3, 6 * most - 4))
    share = read_exactly(row, most)
    if share is not None:
        return ("right", share)
    for place in range(len(row)):
        share = read_exactly(turned(row, [place]), most)
        if share is not None:
            return ("turned", place, share)
    return ("none",)
