"""Towers: rows of carried errors, each made of the errors of the one ahead."""

from meanbits.checks import need_bits, need_one_length
from meanbits.errors import TooMuch
from meanbits.maker import errors, made
from meanbits.parts import part_of
from meanbits.reading import around
from meanbits.stretches import running


def fold(numbers, many):
    """The last of the running sums of the running sums .. of the numbers, many times."""
    sums = numbers
    for number in range(many):
        # The 0 that comes first each time adds nothing to what is last.
        sums = running(sums)
    return sums[-1]


def fold_of_ones(bits, many):
    """Fold of so many ones, many times, however many they are."""
    told = 1
    for number in range(many):
        # In so many ways number things, and one more, can be chosen of bits and number: nothing is left over.
        told = told * (bits + number) // (number + 1)
    return told


def tower(wave, many):
    """The list of so many rows, each made of the errors behind each step of the one ahead."""
    below = wave[0]
    rows = []
    for number in range(many):
        rows.append(made(wave, 0))
        wave = (below, errors(wave, 0)[1:])
    return rows


def tower_sum(rows):
    """The first row's bits folded as often as there are rows, the next one's once fewer and so on, together."""
    need_one_length(rows)
    folds = [fold([int(bit) for bit in row], len(rows) - number) for number, row in enumerate(rows)]
    return sum(folds)


def tower_sure(bits, many):
    """The greatest most, 1 at least, to which shares are told apart by towers of so many bits and rows."""
    whole = fold_of_ones(bits, many)
    most, beyond = 1, 2
    while beyond * (beyond - 1) <= whole:
        most, beyond = beyond, 2 * beyond
    while beyond - most > 1:
        middle = (most + beyond) // 2
        if middle * (middle - 1) <= whole:
            most = middle
        else:
            beyond = middle
    return most


def read_by_tower(rows, most):
    """The least share of a below to most whose tower comes to this sum, None where there is none."""
    together = tower_sum(rows)
    bits = len(rows[0])
    if most > tower_sure(bits, len(rows)):
        raise TooMuch("the tower does not tell shares of such belows apart")
    need_bits(rows[0], 1)
    whole = fold_of_ones(bits, len(rows))
    if together > whole:
        return None
    top, below = around(part_of(together, whole), most)[1]
    return (top, below) if top * whole < (together + 1) * below else None
