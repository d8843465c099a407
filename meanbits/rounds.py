"""Rounds: the rows of fractions go round with their belows."""

from meanbits.checks import need_bits
from meanbits.rows import mean_of
from meanbits.steady import steady, steady_wave
from meanbits.stretches import offs


def round_of(share, start):
    """The steady row of one round."""
    return steady(share, start, share[1])


def rounds(share):
    """The rising list of the rounds by all starts."""
    return sorted([round_of(share, start) for start in range(share[1])])


def start_span(row, share):
    """A pair (low, high): the starts that make the row are those from low up to ahead of high."""
    # The ones of a beginning are its start and tops by below, rounded down, just where the start
    # is its excess or more, and less than its excess and below.
    behind = offs(row, steady_wave(share, len(row)))
    return (max(behind), min(behind) + share[1])


def starts_of(row, share):
    """The rising list of the starts with which the share makes the row."""
    low, high = start_span(row, share)
    return list(range(low, high))


def whole_rounds(row):
    """The pair (share, start) of which the row is rounds and nothing else, None where there is none."""
    # Each round has its top's ones, so no share but the mean can be it.
    share = mean_of(row)
    low, high = start_span(row, share)
    return (share, low) if low < high else None


def period(row):
    """The least many, 1 or more, such that each bit is the one so many places further."""
    need_bits(row, 1)
    many = 1
    while not row.startswith(row[many:]):
        many += 1
    return many
