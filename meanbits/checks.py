"""The tests of arguments that several modules share."""

from meanbits.errors import NoStart, UnlikeRows


def is_number(thing):
    """Whether it is a whole number; Python counts True and False among those, meanbits does not."""
    return isinstance(thing, int) and not isinstance(thing, bool)


def need_start(below, start):
    """Refuse a first error that no carrying by below can have."""
    if not 0 <= start < below:
        raise NoStart("the start is not from 0 to below less one")


def need_one_length(rows):
    """Refuse rows of which two are not of one length."""
    if len({len(row) for row in rows}) > 1:
        raise UnlikeRows("the rows are not of one length")
