"""Bounds of sieves: by how much what is sieved can be off, and what it tells for sure."""

from meanbits.checks import is_number, need_bits
from meanbits.errors import TooMuch
from meanbits.maker import is_wave, made
from meanbits.reading import nearest
from meanbits.sieves import product_of, readings, sieved, weights


def peak(lengths):
    """The greatest weight."""
    return max(weights(lengths))


def worst_wave(lengths, below, up):
    """A tuple (start, tops) whose made row is off by below less one times the peak, above or below."""
    heavy = weights(lengths)
    tops = [0] * len(heavy)
    # Only the heaviest step changes the error, by as much as there can be: from the greatest one
    # to 0 where the one comes too early, from 0 to the greatest one where it is kept back.
    tops[heavy.index(max(heavy))] = 1 if up else below - 1
    return (below - 1 if up else 0, tops)


def off_by(lengths, below, start, tops):
    """Below times what is sieved of the made row, less the weights times the tops."""
    heavy = weights(lengths)
    row = made((below, tops), start)
    return below * sieved(row, lengths)[0] - sum([weight * top for weight, top in zip(heavy, tops)])


def shows_worst_wave(lengths, below, up, thing):
    """Whether the thing is a tuple (start, tops) whose made row is off by just so much that way."""
    if not isinstance(thing, tuple) or len(thing) != 2:
        return False
    start, tops = thing
    if not is_number(start) or not 0 <= start < below:
        return False
    if not is_wave((below, tops)) or len(tops) != len(weights(lengths)):
        return False
    most = (below - 1) * peak(lengths)
    return off_by(lengths, below, start, tops) == (most if up else -most)


def sure_most(lengths):
    """The greatest most, 1 at least, to which shares of steady rows are told apart by their first reading."""
    whole = product_of(lengths)
    doubled = 2 * peak(lengths)
    most = 1
    while doubled * (most + 1) * most <= whole:
        most += 1
    return most


def read_by_sieve(row, lengths, most):
    """The share of a below to most that is nearest to the first reading."""
    many = len(weights(lengths))
    need_bits(row, many)
    if most > sure_most(lengths):
        raise TooMuch("the sieve does not tell shares of such belows apart")
    return nearest(readings(row[:many], lengths)[0], most)
