"""Parting: rows parted into stretches that one number each could have made."""

from meanbits.checks import is_stretch
from meanbits.reading import read
from meanbits.spans import span_of


def has_span(row):
    """Whether some number could have made the row."""
    return span_of(row) is not None


def longest(row):
    """How many first bits of a row that is not empty have a span together, at most."""
    many = len(row)
    some, longer = 1, min(2, many)
    # What is part of a stretch with a span has one, too, so no length behind the first one without has a span.
    while some < many and has_span(row[:longer]):
        some, longer = longer, min(2 * longer, many)
    while longer - some > 1:
        middle = (some + longer) // 2
        if has_span(row[:middle]):
            some = middle
        else:
            longer = middle
    return some


def pieces(row):
    """The list of stretches, side by side, each with a span and as long as can be."""
    told = []
    one = 0
    while one < len(row):
        other = one + longest(row[one:])
        told.append((one, other))
        one = other
    return told


def shows_pieces(row, thing):
    """Whether the thing is a list of stretches that part the row, each as long as can be."""
    if not isinstance(thing, list) or not all(is_stretch(one, len(row)) for one in thing):
        return False
    # From the first bit on there is one longest stretch at each place, so there is one such list.
    return thing == pieces(row)


def numbers_of(row):
    """The list of the shares of the least below that make the pieces."""
    return [read(row[one:other]) for one, other in pieces(row)]
