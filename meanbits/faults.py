"""Faults: what turned bits cost."""

from meanbits.checks import need_as_many
from meanbits.sieves import weights


def dearest(row, heavy, many, bit):
    """A pair (cost, places): the greatest sum of at most so many weights where the row has that bit."""
    places = [place for place in range(len(row)) if row[place] == bit]
    places = sorted(places, key=lambda place: -heavy[place])[:many]
    return (sum([heavy[place] for place in places]), sorted(places))


def fault_cost(row, lengths, many):
    """A tuple (cost, places): how much at most many turned bits can change what is sieved, and where."""
    heavy = weights(lengths)
    need_as_many(row, heavy)
    # Noughts that are turned add their weights and ones take theirs off: only alike bits go together.
    return max([dearest(row, heavy, many, bit) for bit in "01"])
