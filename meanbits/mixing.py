"""Mixtures: rows weighed into one."""

from meanbits.checks import need_one_length
from meanbits.errors import TooMuch
from meanbits.maker import made
from meanbits.parts import part_of, sum_of, times


def mixed(rows, weights, below):
    """The row made of the sums of the weights, by below, of those rows that have a one."""
    need_one_length(rows)
    if sum(weights) > below:
        raise TooMuch("the weights together are more than below")
    tops = [0] * len(rows[0])
    for row, weight in zip(rows, weights):
        tops = [top + weight * int(bit) for top, bit in zip(tops, row)]
    return made((below, tops), 0)


def mixed_bound(bounds, weights, below):
    """The bound that a mixture keeps where each of its rows keeps its own."""
    weighed = sum_of([times((weight, 1), bound) for weight, bound in zip(weights, bounds)])
    return sum_of([times(weighed, part_of(1, below)), (1, 1)])
