"""Pressing: rows told by the lengths of their runs, again and again."""

from meanbits.checks import are_numbers
from meanbits.rows import flipped, is_row, ones

MOST_BITS = 10000


def press(row):
    """The pair (step, what comes of it), None where no step presses the row."""
    flip = 1 if "11" in row else 0
    whole = flipped(row) if flip else row
    if "0" not in whole or "1" not in whole or "11" in whole:
        return None
    noughts = [len(run) for run in whole.split("1")]
    between = noughts[1:-1]
    least = min(between, default=0)
    if max(between, default=0) > least + 1:
        return None
    inner = "".join(["0" if many == least else "1" for many in between])
    return ((flip, least, noughts[0], noughts[-1]), inner)


def unpress(step, inner):
    """The row of which the step makes the inner one."""
    flip, least, head, tail = step
    between = ["0" * (least + int(bit)) + "1" for bit in inner]
    whole = "0" * head + "1" + "".join(between) + "0" * tail
    return flipped(whole) if flip else whole


def counts_behind(step, counts):
    """The pair (bits, ones) of the row of which the step makes one with those counts."""
    flip, least, head, tail = step
    inner_bits, inner_ones = counts
    ones_here = inner_bits + 1
    bits = head + ones_here + inner_bits * least + inner_ones + tail
    return (bits, bits - ones_here if flip else ones_here)


def pressed(row):
    """A tuple (steps, core): the steps that press the row, and the row that is left."""
    steps = []
    found = press(row)
    while found is not None:
        step, row = found
        steps.append(step)
        found = press(row)
    return (steps, row)


def is_step(thing):
    """Whether it has the form of a step, whatever its flip is."""
    return are_numbers(thing, 4) and min(thing) >= 0


def is_pressed(thing):
    """Whether it is what pressed tells of some row of at most 10,000 bits."""
    if not isinstance(thing, tuple) or len(thing) != 2:
        return False
    steps, core = thing
    if not isinstance(steps, list) or not all(is_step(step) for step in steps) or not is_row(core):
        return False
    if len(core) > MOST_BITS or press(core) is not None:
        return False
    row = core
    for step in steps[::-1]:
        # The bits are counted ahead of being written, for they may be very many.
        if counts_behind(step, (len(row), ones(row)))[0] > MOST_BITS:
            return False
        inner = row
        row = unpress(step, inner)
        if press(row) != (step, inner):
            return False
    return True


def unpressed(thing):
    """The row of which pressed tells the thing."""
    steps, row = thing
    for step in steps[::-1]:
        row = unpress(step, row)
    return row


def pressed_counts(thing):
    """The pair (bits, ones) of the row of these steps and this core."""
    steps, core = thing
    counts = (len(core), ones(core))
    for step in steps[::-1]:
        counts = counts_behind(step, counts)
    return counts
