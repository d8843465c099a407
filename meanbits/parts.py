"""Parts: fractions in lowest terms, as tuples (top, below) with below 1 or more."""

from meanbits.errors import BadPart

MOST_FIGURES = 12
CHUNK_FIGURES = 64
CHUNK = 10 ** 64


def common_divisor(one, other):
    """The greatest number that divides both; of 0 and a number, that number without its sign."""
    while other:
        one, other = other, one % other
    return abs(one)


def part_of(top, below):
    """The part that is top by below."""
    divisor = common_divisor(top, below)
    if below < 0:
        divisor = -divisor
    return (top // divisor, below // divisor)


def sum_of(parts):
    """The sum of a list of parts."""
    top, below = 0, 1
    for one_top, one_below in parts:
        # Over the least common below, not the product: one reduction at the end then
        # suffices, and the numbers of long lists stay as small as they can be.
        scale = one_below // common_divisor(below, one_below)
        below *= scale
        top = top * scale + one_top * (below // one_below)
    return part_of(top, below)


def times(one, other):
    """The product of two parts."""
    return part_of(one[0] * other[0], one[1] * other[1])


def is_less(one, other):
    """Whether one part is less than the other."""
    return one[0] * other[1] < other[0] * one[1]


def greatest(parts):
    """The greatest of a list of parts, not empty."""
    found = parts[0]
    for part in parts:
        if is_less(found, part):
            found = part
    return found


def least(parts):
    """The least of a list of parts, not empty."""
    found = parts[0]
    for part in parts:
        if is_less(part, found):
            found = part
    return found


def figures(number):
    """The figures of a number from 0."""
    # str() alone refuses numbers of some thousand figures, which sums of many parts can have.
    chunks = []
    while number >= CHUNK:
        number, rest = divmod(number, CHUNK)
        chunks.append(str(rest).zfill(CHUNK_FIGURES))
    chunks.append(str(number))
    return "".join(chunks[::-1])


def part_text(part):
    """The part as it is written: TOP/BELOW, or TOP alone where below is 1."""
    top, below = part
    sign = "-" if top < 0 else ""
    end = "" if below == 1 else "/" + figures(below)
    return sign + figures(abs(top)) + end


def is_figures(text):
    """Whether it is one to twelve of the signs 0 to 9."""
    return 1 <= len(text) <= MOST_FIGURES and all(sign in "0123456789" for sign in text)


def part_in(text):
    """The part that the text writes just as part_text does."""
    top_text, bar, below_text = text.removeprefix("-").partition("/")
    if not bar:
        below_text = "1"
    if not is_figures(top_text) or not is_figures(below_text) or int(below_text) == 0:
        raise BadPart("the text writes no part")
    sign = -1 if text.startswith("-") else 1
    part = part_of(sign * int(top_text), int(below_text))
    # What is written otherwise than part_text writes it comes out as another text.
    if part_text(part) != text:
        raise BadPart("the part is written otherwise")
    return part
