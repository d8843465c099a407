"""One carried error: rows made of waves, at once or step by step."""

from meanbits.checks import is_number, need_start
from meanbits.errors import NoTop


def is_wave(thing):
    """Whether it is a wave, a tuple (below, tops)."""
    if not isinstance(thing, tuple) or len(thing) != 2:
        return False
    below, tops = thing
    if not is_number(below) or below < 1 or not isinstance(tops, list):
        return False
    return all(is_number(top) and 0 <= top <= below for top in tops)


def carry(below, error, top):
    """A pair: the bit of a step, and the error behind it."""
    error += top
    if error >= below:
        return (1, error - below)
    return (0, error)


def carried(wave, start):
    """A pair: the list of the bits of all steps, and the list of start and the errors behind them."""
    below, tops = wave
    need_start(below, start)
    bits = []
    behind = [start]
    for top in tops:
        bit, error = carry(below, behind[-1], top)
        bits.append(bit)
        behind.append(error)
    return (bits, behind)


def made(wave, start):
    """The row that the wave makes from that start."""
    bits = carried(wave, start)[0]
    return "".join([str(bit) for bit in bits])


def errors(wave, start):
    """The list of start and the errors behind each step."""
    return carried(wave, start)[1]


class Maker:
    """Carries an error step by step, and back."""

    def __init__(self, below, start):
        need_start(below, start)
        self.below = below
        self.start = start
        self.now = start
        self.steps = []

    def put(self, top):
        """Goes a step with this top; tells its bit."""
        if not 0 <= top <= self.below:
            raise NoTop("the top is not from 0 to below")
        bit, self.now = carry(self.below, self.now, top)
        self.steps.append((top, bit))
        return bit

    def bits(self):
        """The row so far."""
        return "".join([str(bit) for top, bit in self.steps])

    def error(self):
        """The error behind the last step."""
        return self.now

    def back(self):
        """Takes the last step back; tells its top, None where there is no step."""
        if not self.steps:
            return None
        top, bit = self.steps.pop()
        self.now += self.below * bit - top
        return top

    def twin(self):
        """A Maker of its own that stands likewise, with all steps."""
        other = Maker(self.below, self.start)
        for top, bit in self.steps:
            other.put(top)
        return other
