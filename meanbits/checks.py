"""The tests of arguments that several modules share."""

from meanbits.errors import NoStart, TooShort, UnlikeRows


def is_number(thing):
    """Whether it is a whole number; Python counts True and False among those, meanbits does not."""
    return isinstance(thing, int) and not isinstance(thing, bool)


def are_numbers(thing, many):
    """Whether it is a tuple of so many numbers."""
    return isinstance(thing, tuple) and len(thing) == many and all(is_number(one) for one in thing)


def is_stretch(thing, bits):
    """Whether it is a stretch of a row of so many bits."""
    return are_numbers(thing, 2) and 0 <= thing[0] < thing[1] <= bits


def need_start(below, start):
    """Refuse a first error that no carrying by below can have."""
    if not 0 <= start < below:
        raise NoStart("the start is not from 0 to below less one")


def need_bits(row, many):
    """Refuse a row of fewer bits."""
    if len(row) < many:
        raise TooShort("the row has too few bits")


def need_one_length(rows):
    """Refuse rows of which two are not of one length."""
    if len({len(row) for row in rows}) > 1:
        raise UnlikeRows("the rows are not of one length")


def need_as_many(row, numbers):
    """Refuse a row that has not a bit for each of the numbers."""
    if len(row) != len(numbers):
        raise UnlikeRows("there are not as many numbers as bits")
