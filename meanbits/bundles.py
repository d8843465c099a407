"""Bundles: rows of unlike makers that tell one wave together."""

from meanbits.checks import need_one_length
from meanbits.maker import made


def spread(wave, many):
    """The list of so many rows of the wave, their starts spread evenly."""
    below, tops = wave
    # Both times many: the same numbers, and starts between the ones that below alone has.
    finer = (below * many, [top * many for top in tops])
    return [made(finer, below * number) for number in range(many)]


def levels(rows):
    """The list of how many of the rows have a one, place by place."""
    need_one_length(rows)
    return [sum([int(row[place]) for row in rows]) for place in range(len(rows[0]))]
