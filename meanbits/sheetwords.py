"""The words of sheets: how each kind of row is written."""

from meanbits.errors import BadPart
from meanbits.maker import is_wave
from meanbits.parts import is_figures, part_in
from meanbits.rows import is_row

MOST_LETTERS = 8
MOST_BITS = 400
MOST_LENGTHS = 4

# What stands behind the first word: a name that is new, one that is told ahead as a share, a row or
# a wave, a part, bits, or a number from one to the other (none has more than six figures).
FORMS = {
    "share": ("new", "part"),
    "row": ("new", "bits"),
    "wave": ("new", (1, 999999)),
    "make": ("new", "share", (0, 999999), (0, 400)),
    "carry": ("new", "wave", (0, 999999)),
    "mix": ("new", "row", "row"),
    "add": ("new", "row", "row"),
    "multiply": ("new", "row", "row"),
    "flip": ("new", "row"),
    "turn": ("new", "row"),
    "ones": ("row",),
    "span": ("row",),
    "read": ("row",),
    "exactly": ("row", (1, 60)),
    "sieve": ("row",),
    "press": ("row",),
    "pieces": ("row",),
    "mend": ("row", (1, 8)),
    "worst": ("row", "share"),
    "show": ("row",),
}

# Behind these stand numbers more, one at least, each from one to the other.
MORE = {"wave": (0, 999999), "turn": (0, 999999), "sieve": (1, 30)}


def number_in(word, low, high):
    """The number that the word writes, None where it writes none from low to high."""
    if not is_figures(word) or str(int(word)) != word:
        return None
    return int(word) if low <= int(word) <= high else None


def share_in(word):
    """The share that the word writes, None where it writes none."""
    try:
        top, below = part_in(word)
    except BadPart:
        return None
    return (top, below) if 0 <= top <= below else None


def is_name(word):
    """Whether it is one to eight letters from a to z."""
    return 1 <= len(word) <= MOST_LETTERS and all("a" <= sign <= "z" for sign in word)


def value_in(word, form, things):
    """What the word tells where such a one must stand, None where it is not so written."""
    if isinstance(form, tuple):
        return number_in(word, form[0], form[1])
    if form == "new":
        return word if is_name(word) and word not in things else None
    if form == "part":
        return share_in(word)
    if form == "bits":
        return word if is_row(word) and 1 <= len(word) <= MOST_BITS else None
    kind, value = things.get(word, ("", None))
    return value if kind == form else None


def fits(verb, values, more):
    """Whether the numbers more can stand behind such values."""
    if verb == "wave":
        return is_wave((values[1], more))
    if verb == "turn":
        return len(set(more)) == len(more)
    return len(more) <= MOST_LENGTHS


def values_in(words, things):
    """The list of what the words behind the first one tell, None where they are not so written.

    Things are those told ahead: a dict of pairs (kind, value) by names.
    """
    verb = words[0]
    if verb not in FORMS:
        return None
    forms = FORMS[verb]
    behind = words[1:]
    many_more = len(behind) - len(forms)
    if many_more < 0 or (many_more > 0) != (verb in MORE):
        return None
    values = [value_in(word, form, things) for word, form in zip(behind, forms)]
    low, high = MORE.get(verb, (0, 0))
    more = [number_in(word, low, high) for word in behind[len(forms):]]
    if None in values or None in more or not fits(verb, values, more):
        return None
    return values + more
