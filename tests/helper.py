"""What several test files need: things in plenty, and one-place changes of them."""

import copy
import itertools
import math
from fractions import Fraction


def all_rows(most):
    """Every row of at most so many bits."""
    return ["".join(bits) for many in range(most + 1) for bits in itertools.product("01", repeat=many)]


def numbers(seed, many, most):
    """So many numbers from 0 to most that look mixed, the same ones each time."""
    told = []
    state = seed
    for _ in range(many):
        state = (state * 6364136223846793005 + 1442695040888963407) % 2 ** 64
        told.append((state >> 33) % (most + 1))
    return told


def mixed_row(seed, many):
    """A row of so many bits that look mixed."""
    return "".join(str(bit) for bit in numbers(seed, many, 1))


def all_shares(most):
    """Every share of a below to most."""
    return [(top, below) for below in range(1, most + 1) for top in range(below + 1) if math.gcd(top, below) == 1]


def by_fraction(part):
    """A part's fraction, for reckoning beside the program."""
    return Fraction(part[0], part[1])


def stretches(bits):
    """All stretches of a row of so many bits."""
    return [(one, other) for one in range(bits) for other in range(one + 1, bits + 1)]


ODD_THINGS = [
    None, True, False, 0, 1, -1, 7, 10 ** 30, "", "0", "1", "01", "2", "closed", "beyond",
    [], (), [0], (0,), ["0"], ("1",), [[]], ((),), [()], ([],), (1, 2), [1, 2], (1, 2, 3), (None, None),
    [True], (True, [True]), ("closed",), ("beyond",), ("closed", []), ("beyond", []), ["closed", [(0, 0)]],
    ["beyond", [0]], ("closed", [(0, 0)], 0), (("closed",), [(0, 0)]), ("closed", None), ("beyond", "0"),
    ("beyond", 1), ("closed", "(0, 0)"), ("closed", [[[[[[[[[]]]]]]]]]), (((((((((),),),),),),),),),
]


def other_leaves(leaf):
    """Things to stand in the place of a number, a text or the like."""
    told = [None, True, False, "", str(leaf), [leaf], (leaf,)]
    if isinstance(leaf, int):
        told += [leaf + 1, leaf - 1, leaf + 10 ** 9, -leaf]
    if isinstance(leaf, str):
        told += [leaf + " ", leaf.upper(), leaf[:-1], 0]
    # Only what is another thing, True and 1 apart.
    return [thing for thing in told if (type(thing), thing) != (type(leaf), leaf)]


def altered(thing):
    """Things that differ from this one at one place, at any depth."""
    if not isinstance(thing, (list, tuple)):
        yield from other_leaves(thing)
        return
    kind = type(thing)
    yield None
    yield tuple(thing) if kind is list else list(thing)
    for place in range(len(thing)):
        head, tail = list(thing[:place]), list(thing[place + 1:])
        yield kind(head + tail)
        yield kind(head + [thing[place], thing[place]] + tail)
        for other in altered(thing[place]):
            yield kind(head + [copy.deepcopy(other)] + tail)
