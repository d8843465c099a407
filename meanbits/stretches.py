"""Stretches of rows: by how much their ones are off."""

from meanbits.checks import need_as_many, need_bits
from meanbits.rows import ones_in
from meanbits.steady import steady_wave


def running(numbers):
    """The list of the sums of the first numbers, from none to all."""
    sums = [0]
    for number in numbers:
        sums.append(sums[-1] + number)
    return sums


def excess(row, wave, one, other):
    """Below times the ones of the stretch, less its tops."""
    below, tops = wave
    need_as_many(row, tops)
    return below * ones_in(row, one, other) - sum(tops[one:other])


def offs(row, wave):
    """The list of the excess of each beginning, from none to all bits."""
    below, tops = wave
    need_as_many(row, tops)
    return running([below * int(bit) - top for bit, top in zip(row, tops)])


def first_greatest(sums):
    """A pair: the most that a later sum is above an earlier one, and the first stretch between such."""
    highest = len(sums) - 1
    most, stretch = sums[highest] - sums[highest - 1], (highest - 1, highest)
    # From the end on, so that the first of the highest sums further on is known at each place.
    for one in range(len(sums) - 3, -1, -1):
        if sums[one + 1] >= sums[highest]:
            highest = one + 1
        if sums[highest] - sums[one] >= most:
            most, stretch = sums[highest] - sums[one], (one, highest)
    return (most, stretch)


def worst(row, wave):
    """A tuple (most, stretch, least, stretch): the greatest and the least excess, with the first of each."""
    behind = offs(row, wave)
    need_bits(row, 1)
    most, most_stretch = first_greatest(behind)
    fall, least_stretch = first_greatest([-off for off in behind])
    return (most, most_stretch, -fall, least_stretch)


def no_better(row, share):
    """The first stretch that is off by below less one or more, either way."""
    below = share[1]
    need_bits(row, below)
    behind = offs(row, steady_wave(share, len(row)))
    for one in range(len(row)):
        for other in range(one + 1, len(row) + 1):
            if abs(behind[other] - behind[one]) >= below - 1:
                return (one, other)
