"""Steady numbers: the row of a share, and what stands in it however far on."""

from meanbits.checks import need_start
from meanbits.maker import made


def steady_wave(share, many):
    """The wave of so many steps that has the share at each of them."""
    top, below = share
    return (below, [top] * many)


def steady(share, start, many):
    """The row of so many steps."""
    below = share[1]
    first = made(steady_wave(share, min(many, below)), start)
    # Behind as many steps as below the error is the start again, so what follows is known.
    return (first * (many // below + 1))[:many]


def carried_to(share, start, many):
    """A pair: the ones of so many steps, and the error behind them."""
    top, below = share
    need_start(below, start)
    return divmod(start + top * many, below)


def count(share, start, many):
    """The ones of so many steps."""
    return carried_to(share, start, many)[0]


def error_behind(share, start, many):
    """The error behind so many steps."""
    return carried_to(share, start, many)[1]


def bit_at(share, start, place):
    """The bit at this place, a number."""
    return count(share, start, place + 1) - count(share, start, place)


def one_at(share, start, number):
    """The place of the one of that number, None where the share has no ones."""
    top, below = share
    need_start(below, start)
    if top == 0:
        return None
    # So much must be added to the start until there is one more one than that number.
    needed = below * (number + 1) - start
    return (needed - 1) // top
