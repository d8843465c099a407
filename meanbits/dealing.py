"""Dealt rows: ones dealt out row by row, round and round, and what weights make of them."""

from meanbits.checks import is_number, is_stretch, need_one_length
from meanbits.errors import TooMuch
from meanbits.parts import part_of


def are_levels(numbers, many):
    """Whether each of the numbers can be a level of so many rows."""
    return all(0 <= number <= many for number in numbers)


def dealt_row(levels, many, number):
    """The row of that number among many dealt ones."""
    bits = []
    following = 0
    for level in levels:
        ahead = (number - following) % many
        bits.append("1" if ahead < level else "0")
        following = (following + level) % many
    return "".join(bits)


def dealt(levels, many):
    """The list of many rows: at each step the next ones, as many as the level tells, get a one."""
    if not are_levels(levels, many):
        raise TooMuch("a level is not from 0 to as many as there are rows")
    return [dealt_row(levels, many, number) for number in range(many)]


def weighed(rows, weights):
    """The list of the sums of the weights of those rows that have a one, place by place."""
    need_one_length(rows)
    sums = [0] * len(rows[0])
    for row, weight in zip(rows, weights):
        sums = [so_far + weight * int(bit) for so_far, bit in zip(sums, row)]
    return sums


def side_by_side(weights):
    """The list of tuples (off, first, many): so many rows from the first on, round and round.

    Off is the sum of their weights less the mean, each, times the number of all rows, which keeps
    it whole. All rows are left out: they come to 0, as none do.
    """
    rows = len(weights)
    total = sum(weights)
    told = []
    for first in range(rows):
        off = 0
        for many in range(rows):
            told.append((off, first, many))
            off += rows * weights[(first + many) % rows] - total
    return told


def weigh_bound(weights):
    """A pair (most, least) of parts: the greatest and the least sum of weights less their mean."""
    offs = [off for off, first, many in side_by_side(weights)]
    return (part_of(max(offs), len(weights)), part_of(min(offs), len(weights)))


def worst_levels(weights):
    """A tuple (levels, stretch): levels, and a stretch of them over which the dealt rows come to most."""
    off, first, many = max(side_by_side(weights))
    # The first level brings the dealing to the first of the worst rows, the next one gives them their ones.
    return ([first, many], (1, 2))


def shows_worst_levels(weights, thing):
    """Whether the thing is levels, and a stretch of them over which the dealt rows come to most."""
    if not isinstance(thing, tuple) or len(thing) != 2 or not isinstance(thing[0], list):
        return False
    levels, stretch = thing
    rows = len(weights)
    if not all(is_number(level) for level in levels) or not are_levels(levels, rows):
        return False
    if not is_stretch(stretch, len(levels)):
        return False
    one, other = stretch
    gained = sum(weighed(dealt(levels, rows), weights)[one:other])
    off = rows * gained - sum(weights) * sum(levels[one:other])
    return off == max(side_by_side(weights))[0]
