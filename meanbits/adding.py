"""Sums of two rows: ones wait where both have one."""

from meanbits.checks import need_one_length


def added(one, other):
    """A tuple (row, left, most): the sum, how many ones wait behind all, and the most behind a step."""
    need_one_length([one, other])
    bits = []
    waiting = most = 0
    for first, second in zip(one, other):
        waiting += int(first) + int(second)
        bit = min(waiting, 1)
        waiting -= bit
        most = max(most, waiting)
        bits.append(str(bit))
    return ("".join(bits), waiting, most)
