"""Sheets: rows of words that tell things, do deeds and ask."""

from meanbits.adding import added
from meanbits.errors import BadSheet, NoPlace, NoStart, TooShort, UnlikeRows
from meanbits.maker import made
from meanbits.mending import mended
from meanbits.mixing import mixed
from meanbits.parting import pieces
from meanbits.parts import part_text
from meanbits.pressing import pressed
from meanbits.products import product
from meanbits.reading import read, read_exactly
from meanbits.rows import flipped, ones, turned
from meanbits.sheetwords import values_in
from meanbits.sieves import readings
from meanbits.spans import span_of
from meanbits.steady import steady, steady_wave
from meanbits.stretches import worst

MOST_MENDED = 80


def make_row(share, start, many):
    """The row of the deed make."""
    return steady(share, start, many)


def carry_row(wave, start):
    """The row of the deed carry."""
    return made(wave, start)


def mix_rows(one, other):
    """The row of the deed mix."""
    return mixed([one, other], [1, 1], 2)


def add_rows(one, other):
    """The row of the deed add."""
    return added(one, other)[0]


def multiply_rows(one, other):
    """The row of the deed multiply."""
    return product(one, other)


def flip_row(row):
    """The row of the deed flip."""
    return flipped(row)


def turn_row(row, *places):
    """The row of the deed turn."""
    return turned(row, list(places))


DEEDS = {
    "make": make_row,
    "carry": carry_row,
    "mix": mix_rows,
    "add": add_rows,
    "multiply": multiply_rows,
    "flip": flip_row,
    "turn": turn_row,
}


def listed(words):
    """The words by blanks, - without any."""
    return " ".join(words) if words else "-"


def bits_text(row):
    """All the bits of the row, - without any."""
    return row if row else "-"


def share_text(share):
    """The share as it is written, none where there is none."""
    return "none" if share is None else part_text(share)


def stretch_text(stretch):
    """The stretch as ONE-OTHER."""
    one, other = stretch
    return f"{one}-{other}"


def ask_ones(row):
    """The answer to ones."""
    return f"{ones(row)} of {len(row)}"


def ask_span(row):
    """The answer to span."""
    span = span_of(row)
    return "none" if span is None else listed([part_text(part) for part in span])


def ask_read(row):
    """The answer to read."""
    return share_text(read(row))


def ask_exactly(row, most):
    """The answer to exactly."""
    return share_text(read_exactly(row, most))


def ask_sieve(row, *lengths):
    """The answer to sieve."""
    return listed([part_text(reading) for reading in readings(row, list(lengths))])


def ask_press(row):
    """The answer to press."""
    steps, core = pressed(row)
    words = [f"{flip}:{least}:{head}:{tail}" for flip, least, head, tail in steps]
    return listed(words + [bits_text(core)])


def ask_pieces(row):
    """The answer to pieces."""
    return listed([stretch_text(stretch) for stretch in pieces(row)])


def ask_mend(row, most):
    """The answer to mend."""
    if len(row) > MOST_MENDED:
        return "too long"
    told = mended(row, most)
    if told[0] == "right":
        return f"right {part_text(told[1])}"
    if told[0] == "turned":
        return f"turned {told[1]} {part_text(told[2])}"
    return "none"


def ask_worst(row, share):
    """The answer to worst."""
    most, most_stretch, least, least_stretch = worst(row, steady_wave(share, len(row)))
    return f"{most} {stretch_text(most_stretch)} {least} {stretch_text(least_stretch)}"


ASKS = {
    "ones": ask_ones,
    "span": ask_span,
    "read": ask_read,
    "exactly": ask_exactly,
    "sieve": ask_sieve,
    "press": ask_press,
    "pieces": ask_pieces,
    "mend": ask_mend,
    "worst": ask_worst,
    "show": bits_text,
}


def outcome(action, values):
    """A pair: what comes of it, and the refusal, each an empty text where there is none."""
    try:
        return (action(*values), "")
    except NoPlace:
        return ("", "refused NoPlace")
    except NoStart:
        return ("", "refused NoStart")
    except TooShort:
        return ("", "refused TooShort")
    except UnlikeRows:
        return ("", "refused UnlikeRows")


def kind_told(verb):
    """Of which kind the thing is that such a row tells, None of an ask."""
    if verb in ASKS:
        return None
    return "row" if verb in DEEDS else verb


def need_sheet(lines):
    """Refuse the first row that is not written as it must be."""
    things = {}
    for number, line in enumerate(lines):
        if line:
            words = line.split(" ")
            if values_in(words, things) is None:
                raise BadSheet(number)
            kind = kind_told(words[0])
            if kind is not None:
                # Only the kind is asked for here: nothing is reckoned ahead of the last row.
                things[words[1]] = (kind, "")


def thing_of(verb, values):
    """What a row that tells a thing tells: a part, bits or a wave."""
    return (values[1], values[2:]) if verb == "wave" else values[1]


def answers_to(verb, values, things):
    """The list of the answer to a row of a sheet, empty of one that tells a thing; keeps what is told in things."""
    if verb in ASKS:
        ask = ASKS[verb]
        told, refusal = outcome(ask, values)
        return [refusal if refusal else told]
    if verb in DEEDS:
        deed = DEEDS[verb]
        row, refusal = outcome(deed, values[1:])
        things[values[0]] = ("row", row)
        return [refusal if refusal else bits_text(row)]
    things[values[0]] = (verb, thing_of(verb, values))
    return []


def run(text):
    """The list of answers to a sheet, a text for each deed and ask."""
    lines = text.split("\n")
    need_sheet(lines)
    things = {}
    answers = []
    for line in lines:
        if line:
            words = line.split(" ")
            answers.extend(answers_to(words[0], values_in(words, things), things))
    return answers
