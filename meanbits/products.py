"""Products: rows whose ones are kept by another row's bits."""

from meanbits.checks import need_bits
from meanbits.parts import common_divisor, times
from meanbits.rows import ones


def product(one, other):
    """The row one with the bits of the other, in order, in the places of its ones."""
    need_bits(other, ones(one))
    told = []
    taken = 0
    for bit in one:
        if bit == "1":
            told.append(other[taken])
            taken += 1
        else:
            told.append("0")
    return "".join(told)


def product_share(one, other):
    """The product of two shares."""
    return times(one, other)


def product_round(one, other):
    """A pair (many, ones): with how many bits the product of two steady rows goes round, and its ones."""
    shared = common_divisor(one[0], other[1])
    return (one[1] * other[1] // shared, one[0] * other[0] // shared)
