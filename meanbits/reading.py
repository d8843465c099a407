"""Reading: the number that made a row, told by the least below that it can have."""

from meanbits.checks import need_bits
from meanbits.parts import is_less, sum_of, times
from meanbits.spans import span_of


def inverse_beyond(part, whole):
    """The pair (top, below) of 1 by what the part is above the whole; below is 0 where it is not above."""
    top, below = part
    return (below, top - whole * below)


def simplest_in(low, high):
    """Of the parts between, neither end included, the one of the least below, of these the least."""
    wholes = []
    whole = low[0] // low[1]
    # No whole number lies between, so all parts there share this whole, and what they are above it
    # is the simplest where 1 by it is.
    while (whole + 1) * high[1] >= high[0]:
        wholes.append(whole)
        low, high = inverse_beyond(high, whole), inverse_beyond(low, whole)
        whole = low[0] // low[1]
    top, below = whole + 1, 1
    for outer in wholes[::-1]:
        top, below = outer * top + below, top
    return (top, below)


def read(row):
    """The share of the least below, of these the least, that makes the row, None where none does."""
    span = span_of(row)
    if span is None:
        return None
    # Low is from -1 to below 1 and high above 0, so 0 or 1 is simplest, or it lies between these: a share.
    return simplest_in(span[0], span[1])


def drawn(one, other, part, most):
    """The share one, drawn towards the other until the part between would be passed or its below be beyond most."""
    top, below = part
    apart = abs(top * one[1] - one[0] * below)
    step = abs(top * other[1] - other[0] * below)
    many = min(apart // step, (most - one[1]) // other[1])
    return (one[0] + many * other[0], one[1] + many * other[1])


def around(part, most):
    """A pair: the greatest share of a below to most that is not above the share, the least that is not below it."""
    if part[1] <= most:
        return (part, part)
    low, high = (0, 1), (1, 1)
    # Of all that lies between both the sum of the belows is the least below, so they stand side by side behind this.
    while low[1] + high[1] <= most:
        low = drawn(low, high, part, most)
        high = drawn(high, low, part, most)
    return (low, high)


def nearest(part, most):
    """The share of a below to most that is nearest to the share, the lesser of two."""
    low, high = around(part, most)
    return high if is_less(sum_of([low, high]), times((2, 1), part)) else low


def read_exactly(row, most):
    """The share of a below to most that makes the row, None where none does."""
    need_bits(row, 2 * most - 2)
    # An empty row, which suffices here where most is 1, is refused as it is read.
    share = read(row)
    # There is one at most, so that none but the one of the least below can be it.
    return share if share is not None and share[1] <= most else None


def twins(most):
    """A tuple (row, one, other): a row one bit too short to be read exactly, and two shares that make it."""
    ends = "0" * (most - 2)
    return (ends + "1" + ends, (1, most), (1, most - 1))
