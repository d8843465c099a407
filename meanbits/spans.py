"""Spans: which numbers could have made a row, and what shows that none could."""

from meanbits.checks import are_numbers, need_bits
from meanbits.parts import greatest, is_less, least, part_of
from meanbits.rows import ones_in
from meanbits.stretches import running


def first_ones(row):
    """The list of the ones of each beginning, from none to all bits."""
    return running([int(bit) for bit in row])


def ones_of_stretches(sums, many):
    """The list of the ones of all stretches of so many bits, by the ones of each beginning."""
    return [further - here for here, further in zip(sums, sums[many:])]


def between(lows, highs):
    """The pair of the greatest low and the least high, None where nothing lies between."""
    low, high = greatest(lows), least(highs)
    return (low, high) if is_less(low, high) else None


def span_of(row):
    """The pair (low, high) of parts between which lies each share that makes the row, None where none does."""
    need_bits(row, 1)
    sums = first_ones(row)
    lows = []
    highs = []
    for many in range(1, len(row) + 1):
        counts = ones_of_stretches(sums, many)
        fewest, most = min(counts), max(counts)
        # Nothing lies between these already; most rows without a span end here, at few bits.
        if most - fewest > 1:
            return None
        lows.append(part_of(most - 1, many))
        highs.append(part_of(fewest + 1, many))
    return between(lows, highs)


def first_unlike(counts):
    """The first pair of places, in order, at which the counts differ by two or more, None where none do."""
    if max(counts) - min(counts) < 2:
        return None
    for one in range(len(counts)):
        for other in range(one + 1, len(counts)):
            if abs(counts[one] - counts[other]) >= 2:
                return (one, other)


def uneven(row):
    """The tuple (one, other, many) of two stretches whose ones differ by two or more, None where there is a span."""
    need_bits(row, 1)
    sums = first_ones(row)
    for many in range(1, len(row) + 1):
        found = first_unlike(ones_of_stretches(sums, many))
        if found is not None:
            one, other = found
            return (one, other, many)
    return None


def shows_uneven(row, thing):
    """Whether the thing is a tuple (one, other, many) of two such stretches."""
    need_bits(row, 1)
    if not are_numbers(thing, 3):
        return False
    one, other, many = thing
    if not 0 <= one < other < other + many <= len(row):
        return False
    return abs(ones_in(row, one, one + many) - ones_in(row, other, other + many)) >= 2


def common_span(rows):
    """The pair (low, high) between which lies each share that makes all the rows, None where none does."""
    # All are asked for theirs, so that an empty row is refused though another one has none.
    spans = [span_of(row) for row in rows]
    if None in spans:
        return None
    return between([low for low, high in spans], [high for low, high in spans])
