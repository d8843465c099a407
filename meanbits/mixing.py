"""Mixtures: rows weighed into one."""

from meanbits.dealing import weighed
from meanbits.errors import TooMuch
from meanbits.maker import made
from meanbits.parts import part_of, sum_of, times


def mixed(rows, weights, below):
    """The row made of the sums of the weights, by below, of those rows that have a one."""
    tops = weighed(rows, weights)
    if sum(weights) > below:
        raise TooMuch("the weights together are more than below")
    return made((below, tops), 0)


def mixed_bound(bounds, weights, below):
    """The bound that a mixture keeps where each of its rows keeps its own."""
    together = sum_of([times((weight, 1), bound) for weight, bound in zip(weights, bounds)])
    return sum_of([times(together, part_of(1, below)), (1, 1)])
