import re
import unittest
from fractions import Fraction

from meanbits.adding import added
from meanbits.errors import BadSheet, BitsError
from meanbits.maker import made
from meanbits.mending import mended
from meanbits.mixing import mixed
from meanbits.parting import pieces
from meanbits.pressing import pressed
from meanbits.products import product
from meanbits.reading import read, read_exactly
from meanbits.rows import flipped, turned
from meanbits.sheet import run
from meanbits.sieves import readings
from meanbits.spans import span_of
from meanbits.steady import steady
from meanbits.stretches import worst
from tests.helper import all_rows, mixed_row, numbers

NUMBER = "(?:0|[1-9][0-9]{0,5})"
FORMS = {
    "share": "NEW PART", "row": "NEW BITS", "wave": "NEW N( N)+", "make": "NEW SHARE N N", "carry": "NEW WAVE N",
    "mix": "NEW ROW ROW", "add": "NEW ROW ROW", "multiply": "NEW ROW ROW", "flip": "NEW ROW", "turn": "NEW ROW( N)+",
    "ones": "ROW", "span": "ROW", "read": "ROW", "exactly": "ROW N", "sieve": "ROW( N){1,4}", "press": "ROW",
    "pieces": "ROW", "mend": "ROW N", "worst": "ROW SHARE", "show": "ROW",
}
THINGS = ("share", "row", "wave")
DEEDS = ("make", "carry", "mix", "add", "multiply", "flip", "turn")
ASKS = ("ones", "span", "read", "exactly", "sieve", "press", "pieces", "mend", "worst", "show")


def is_share_text(word):
    if not re.fullmatch("[0-9]{1,12}(/[0-9]{1,12})?", word):
        return False
    top, _, below = word.partition("/")
    if int(below or 1) == 0:
        return False
    part = Fraction(int(top), int(below or 1))
    return str(part) == word and 0 <= part <= 1


def is_so_written(line, kinds):
    """Whether a row of a sheet is written as it must be; kinds are those of the names told ahead."""
    verb = line.split(" ")[0]
    if verb not in FORMS:
        return False
    form = FORMS[verb]
    shape = form.replace("NEW", "[a-z]{1,8}").replace("SHARE", "[a-z]+").replace("ROW", "[a-z]+")
    shape = shape.replace("WAVE", "[a-z]+").replace("PART", "[^ ]+").replace("BITS", "[01]{1,400}").replace("N", NUMBER)
    if not re.fullmatch(verb + " " + shape, line):
        return False
    words = line.split(" ")[1:]
    told = [int(word) for word in words if re.fullmatch(NUMBER, word)] if verb not in ("share", "row") else []
    for word, slot in zip(words, re.findall("[A-Z]+", form)):
        if slot == "NEW" and word in kinds:
            return False
        if slot in ("SHARE", "ROW", "WAVE") and kinds.get(word) != slot.lower():
            return False
        if slot == "PART" and not is_share_text(word):
            return False
    if verb == "wave":
        return told[0] >= 1 and max(told[1:]) <= told[0]
    limits = {"exactly": (1, 60), "sieve": (1, 30), "mend": (1, 8)}
    if verb in limits:
        return all(limits[verb][0] <= number <= limits[verb][1] for number in told)
    if verb == "make":
        return told[1] <= 400
    return verb != "turn" or len(set(told)) == len(told)


def plain_bad_row(text):
    """The number of the first row that is not written as it must be, None where there is none."""
    kinds = {}
    for number, line in enumerate(text.split("\n")):
        if line == "":
            continue
        if not is_so_written(line, kinds):
            return number
        verb, name = line.split(" ")[:2]
        if verb in THINGS:
            kinds[name] = verb
        if verb in DEEDS:
            kinds[name] = "row"
    return None


def fraction_text(part):
    return str(Fraction(*part))


def plain_answer(verb, told):
    """What a deed or an ask tells, put into words here; told is a function that is asked for the rest."""
    if verb in DEEDS:
        row = {"make": lambda: steady(told(0), told(1), told(2)), "carry": lambda: made(told(0), told(1)),
               "mix": lambda: mixed([told(0), told(1)], [1, 1], 2), "add": lambda: added(told(0), told(1))[0],
               "multiply": lambda: product(told(0), told(1)), "flip": lambda: flipped(told(0)),
               "turn": lambda: turned(told(0), told(1, None))}[verb]()
        return row, row or "-"
    row = told(0)
    if verb == "ones":
        return None, "%d of %d" % (row.count("1"), len(row))
    if verb == "span":
        span = span_of(row)
        return None, "none" if span is None else fraction_text(span[0]) + " " + fraction_text(span[1])
    if verb in ("read", "exactly"):
        share = read(row) if verb == "read" else read_exactly(row, told(1))
        return None, "none" if share is None else fraction_text(share)
    if verb == "sieve":
        return None, " ".join(fraction_text(part) for part in readings(row, told(1, None))) or "-"
    if verb == "press":
        steps, core = pressed(row)
        return None, "".join("%d:%d:%d:%d " % step for step in steps) + (core or "-")
    if verb == "pieces":
        return None, " ".join("%d-%d" % piece for piece in pieces(row)) or "-"
    if verb == "mend":
        if len(row) > 80:
            return None, "too long"
        found = mended(row, told(1))
        return None, " ".join([found[0]] + [str(one) if isinstance(one,
                                                                   int) else fraction_text(one) for one in found[1:]])
    if verb == "worst":
        top, below = told(1)
        most, (one, other), least, (low_one, low_other) = worst(row, (below, [top] * len(row)))
        return None, "%d %d-%d %d %d-%d" % (most, one, other, least, low_one, low_other)
    return None, row or "-"


def plain_run(text):
    """The answers, row by row, of a sheet that is written as it must be."""
    values, answers = {}, []
    for line in text.split("\n"):
        if not line:
            continue
        verb, *words = line.split(" ")
        if verb == "share":
            part = Fraction(words[1])
            values[words[0]] = (part.numerator, part.denominator)
        elif verb == "row":
            values[words[0]] = words[1]
        elif verb == "wave":
            values[words[0]] = (int(words[1]), [int(word) for word in words[2:]])
        else:
            behind = words[1:] if verb in DEEDS else words

            def told(at, end=0):
                parts = [int(word) if word.isdigit() else values[word] for word in behind]
                return parts[at:] if end is None else parts[at]

            try:
                row, answer = plain_answer(verb, told)
            except BitsError as refusal:
                row, answer = "", "refused " + type(refusal).__name__
            if verb in DEEDS:
                values[words[0]] = row
            answers.append(answer)
    return answers


WHOLE = """share half 1/2
share none 0
share all 1
share odd 70/199
row some 00110
row long 0010100101001010010100101001010010100101001010
row one 1

wave w 3 1 2 3 0 1
wave flat 1 1 0
make a half 0 8
make b half 2 8
make c odd 198 120
make d all 0 0
carry e w 2
carry f w 3
carry g flat 0
mix h a a
mix i a some
add j some e
add k a c
multiply l a a
multiply m c one
flip n some
flip o b
turn p long 45 0
turn q long 46
turn r b 0
ones a
ones b
ones c
span some
span c
span d
read some
read c
read f
exactly a 5
exactly a 6
exactly c 60
exactly one 1
sieve a 2 3
sieve c 30 30 30 30
sieve some 6
sieve d 1
press a
press c
press some
press q
press one
pieces some
pieces c
pieces i
mend long 8
mend p 5
mend some 1
mend c 1
mend one 1
worst some half
worst c odd
worst one none
worst r all
show some
show b"""


def split(texts):
    """Rows of sheets that are written one behind the other, by commas."""
    return [text.strip() for text in texts.split(",")]


class Sheets(unittest.TestCase):
    def assert_run(self, text, wanted=None):
        told = run(text)
        self.assertEqual(told, plain_run(text) if wanted is None else wanted, text)
        self.assertIs(type(told), list)
        self.assertEqual({type(answer) for answer in told} - {str}, set())
        return told

    def assert_bad(self, text, number=None):
        """Refused at the row of that number; by the look of its rows where no number is told."""
        wanted = plain_bad_row(text) if number is None else number
        with self.assertRaises(BadSheet, msg=text) as caught:
            run(text)
        self.assertEqual(caught.exception.row, wanted, text)
        self.assertIs(type(caught.exception.row), int)
        return caught.exception


class Run(Sheets):
    def test_examples(self):
        self.assert_run("share half 1/2\nmake a half 0 8\nones a", ["01010101", "4 of 8"])
        self.assert_run("row a 0011\nspan a\nread a\npieces a\npress a\nshow a",
                        ["none", "none", "0-3 3-4", "0011", "0011"])
        self.assert_run("row a 00101001\nspan a\nread a\nexactly a 5\nexactly a 6",
                        ["1/3 3/7", "2/5", "2/5", "refused TooShort"])
        self.assert_run("row a 0010100\nsieve a 2 3\npress a", ["1/3 1/2 1/2 1/3", "0:1:2:2 0"])
        self.assert_run("row a 01110101\nmend a 2\nflip b a\nmend b 2\nturn c a 2\nmend c 2",
                        ["turned 2 1/2", "10001010", "turned 2 1/2", "01010101", "right 1/2"])
        self.assert_run("row a 0110\nshare t 1/3\nworst a t", ["4 1-3 -1 0-1"])
        self.assert_run("row a 1100\nadd b a a\nmix c a b\nmultiply d b c",
                        ["1111", "1101", "1101"])
        self.assert_run("wave w 3 1 1 1 1 1 1\ncarry a w 0\nones a", ["001001", "2 of 6"])
        self.assert_run("row a 0\nspan a\nrow b 000\nspan b", ["-1 1", "-1/3 1/3"])

    def test_nothing_but_things(self):
        for text in ("", "\n", "\n\n\n", "share a 1/2", "row a 0\nwave b 1 1\nshare c 0\n", "row a 0"):
            self.assert_run(text, [])

    def test_a_whole_sheet(self):
        told = self.assert_run(WHOLE)
        for some in ("refused NoStart", "refused NoPlace", "refused UnlikeRows", "refused TooShort", "-", "too long",
                     "none"):
            self.assertIn(some, told)
        self.assertEqual(len(told), len([line for line in WHOLE.split("\n") if line.split(" ")[0] in DEEDS + ASKS]))

    def test_each_deed_and_each_ask_is_there(self):
        verbs = {line.split(" ")[0] for line in WHOLE.split("\n") if line}
        self.assertEqual(verbs, set(FORMS))

    def test_all_asks_of_all_short_rows(self):
        asks = """ones a, span a, read a, exactly a 1, exactly a 2, exactly a 3, sieve a 2, sieve a 1 2 3, press a, pieces a,
            mend a 1, mend a 2, worst a half, worst a third, worst a all, show a, flip b a, turn c a 0, multiply d a c,
            multiply e c b, add f a c, mix g a c"""
        for row in all_rows(7)[1:]:
            self.assert_run("\n".join(["share half 1/2", "share third 1/3", "share all 1", "row a " + row] + split(asks)))

    def test_refused_deeds_and_rows_without_bits(self):
        head = ["share half 1/2", "row two 01", "row one 1", "wave w 2 1 1 1"]
        deeds = {"make a half 2 4": "refused NoStart", "make a half 999999 0": "refused NoStart",
                 "carry a w 2": "refused NoStart", "mix a two one": "refused UnlikeRows",
                 "add a one two": "refused UnlikeRows", "turn a two 2": "refused NoPlace",
                 "turn a two 0 1 999999": "refused NoPlace", "make a half 0 0": "-", "make a half 1 0": "-"}
        asks = {"ones a": "0 of 0", "span a": "refused TooShort", "read a": "refused TooShort",
                "exactly a 1": "refused TooShort", "exactly a 60": "refused TooShort", "sieve a 1": "-",
                "sieve a 2 3 4 5": "-", "press a": "-", "pieces a": "-", "mend a 1": "refused TooShort",
                "mend a 8": "refused TooShort", "worst a half": "refused TooShort", "show a": "-", "flip b a": "-",
                "turn c a 0": "refused NoPlace", "mix d a a": "-", "mix e a two": "refused UnlikeRows", "add f a a": "-",
                "add g two a": "refused UnlikeRows", "multiply h a a": "-", "multiply i two a": "refused TooShort",
                "multiply j a two": "-", "show i": "-", "ones j": "0 of 0"}
        for deed, answer in deeds.items():
            self.assert_run("\n".join(head + [deed] + list(asks)), [answer] + list(asks.values()))

    def test_a_refused_product(self):
        self.assert_run("row a 0110\nrow b 1\nmultiply c a b\nshow c\nmultiply d b a\nshow d",
                        ["refused TooShort", "-", "0", "0"])

    def test_mend_of_eighty_and_eighty_one_bits(self):
        row = steady((3, 8), 1, 81)
        for most in (1, 7, 8):
            text = f"row a {row[:80]}\nmend a {most}\nrow b {row}\nmend b {most}\nturn c a 79\nmend c {most}"
            told = self.assert_run(text)
            self.assertEqual(told[1], "too long")
        self.assertEqual(told[0], "right 3/8")
        self.assertEqual(told[3], "turned 79 3/8")
        self.assert_run(f"row b {mixed_row(1, 400)}\nmend b 1", ["too long"])

    def test_mend_of_too_few_bits(self):
        for most in range(1, 9):
            least = max(3, 6 * most - 4)
            for many in (1, 2, least - 1, least):
                self.assert_run(f"row a {'0' * many}\nmend a {most}",
                                ["right 0" if many >= least else "refused TooShort"])

    def test_sixty_rows_and_rows_of_five_hundred_signs(self):
        lines = [f"row a {mixed_row(3, 400)}", "share of 123/200", "make b of 7 400"]
        letters = "cdefghijklmnopqrstuvwxyz"
        deeds = ["flip {} a", "mix {} a b", "add {} b a", "turn {} a 0 399 200", "multiply {} a b"]
        lines += [deeds[at % 5].format(letter) for at, letter in enumerate(letters)]
        asks = [f"{ask} {letter}" for letter in letters for ask in ("ones", "press", "pieces", "span")]
        lines += asks[:60 - len(lines)]
        self.assertEqual(len(lines), 60)
        self.assert_run("\n".join(lines))
        tops = " ".join(str(number) for number in numbers(4, 240, 9))
        line = "wave w 9 " + tops
        self.assertGreater(len(line), 480)
        self.assert_run(line + "\ncarry a w 8\nshow a")
        places = " ".join(str(number) for number in range(100, 220))
        line = "turn b a " + places
        self.assertGreater(len(line), 480)
        self.assert_run(f"row a {mixed_row(4, 400)}\n{line}\nones b")

    def test_numbers_at_their_bounds(self):
        for texts in ["share s 1/2, make a s 0 400, make b s 1 0, exactly a 1, exactly a 60, sieve a 1 30, sieve a 30 1 1 1",
                      "wave w 999999 0 999999, carry a w 999998, carry b w 999999, carry c w 0",
                      "row a 01, turn b a 0 1, turn c a 1 0, turn d a 999999",
                      "share s 999999999/1000000000, make a s 999999 400, worst a s, share t 1/999999999, make b t 5 400"]:
            self.assert_run("\n".join(split(texts)))

    def test_names_that_are_words_of_sheets(self):
        texts = """share share 1/2, row row 0110, wave wave 2 1 1, make make share 0 4, carry carry wave 1, mix mix row make,
            add add row row, multiply multiply row row, flip flip row, turn turn row 0, row ones 01, row span 01, row read 01,
            row exactly 01, row sieve 01, row press 01, row pieces 01, row mend 010, row worst 01, row show 01, row new 01,
            row part 01, row bits 01, row none 0011, ones ones, span span, read read, exactly exactly 1, sieve sieve 2,
            press press, pieces pieces, mend mend 1, worst worst share, show show, show new, show part, show bits, read none,
            show carry, show turn"""
        self.assert_run("\n".join(split(texts)))

    def test_names(self):
        self.assert_run("row abcdefgh 01\nshow abcdefgh\nrow z 1\nshow z\nrow a 0\nshow a\nrow aa 00\nshow aa",
                        ["01", "1", "0", "00"])

    def test_empty_rows(self):
        self.assert_run("\n\nrow a 01\n\n\nshow a\n\n", ["01"])
        for text in ("\n\n\nrow", "\nrow a 2\n", "row a 0\n\n\nrow a 0\n\nrow a 0"):
            self.assert_bad(text)

    def test_told_lists_are_the_askers_own(self):
        told = run(WHOLE)
        wanted = list(told)
        told.clear()
        with self.assertRaises(BadSheet):
            run(WHOLE + "\nshow nobody")
        self.assertEqual(run(WHOLE), wanted)
        self.assertIsNot(run(""), run(""))
        self.assertIsNot(run(WHOLE), run(WHOLE))


class BadSheets(Sheets):
    HEAD = "share s 1/2\nrow r 01\nwave w 2 1 1\n"
    LINES = split("""share a 1/2, share a 0, row a 0101, wave a 3 1 2, wave a 3 0, make a s 0 8, carry a w 1, mix a r r,
        add a r r, multiply a r r, flip a r, turn a r 0, turn a r 0 1, ones r, span r, read r, exactly r 1, sieve r 1,
        sieve r 1 2 3 4, press r, pieces r, mend r 1, worst r s, show r""")
    # Rows that tell something, and rows that name something, with a place for a name.
    TELLING = split("""share {} 1/2, row {} 01, wave {} 2 1, make {} s 0 4, carry {} w 0, mix {} r r, add {} r r,
        multiply {} r r, flip {} r, turn {} r 0""")
    NAMING = split("""make a {} 0 4, carry a {} 0, mix a {} r, mix a r {}, add a {} r, add a r {}, multiply a {} r,
        multiply a r {}, flip a {}, turn a {} 0, ones {}, span {}, read {}, exactly {} 1, sieve {} 1, press {}, pieces {},
        mend {} 1, worst {} s, worst r {}, show {}""")
    STRANGE = split("""x, X, s, r, w, a, 0, 1, 01, 9, 999999, 1000000, -1, 1/2, 2/4, r1, None, ~, nobody, abcdefgh,
        abcdefghi""")

    def assert_as_written(self, text):
        """Refused at the right row, or told, by the look of its rows."""
        if plain_bad_row(text) is None:
            self.assert_run(text)
        else:
            self.assert_bad(text)

    def test_the_lines_are_so_written(self):
        for line in self.LINES:
            self.assertIsNone(plain_bad_row(self.HEAD + line), line)
            self.assert_run(self.HEAD + line)

    def test_a_word_too_many_or_few_and_blanks(self):
        for line in self.LINES:
            words = line.split(" ")
            for at in range(len(words)):
                self.assert_as_written(self.HEAD + " ".join(words[:at] + words[at + 1:]))
                self.assert_as_written(self.HEAD + " ".join(words[:at + 1] + words[at:]))
                self.assert_bad(self.HEAD + " ".join(words[:at + 1] + [""] + words[at + 1:]), 3)
                self.assert_bad(self.HEAD + " ".join(words[:at] + [words[at].upper() + "x"] + words[at + 1:]), 3)
            self.assert_bad(self.HEAD + " " + line, 3)
            self.assert_bad(self.HEAD + line + " ", 3)
            self.assert_bad(self.HEAD + line + "\r", 3)
            self.assert_bad(self.HEAD + line.replace(" ", "\t"), 3)
            self.assert_bad(self.HEAD + line + " x", 3)
            if words[0] not in ("wave", "turn", "sieve"):
                self.assert_bad(self.HEAD + line + " 1", 3)
            self.assert_bad(self.HEAD + words[0], 3)
            self.assert_bad(self.HEAD + " ".join(words[:-1] + [words[-1].upper() + "."]), 3)

    def test_strange_words_and_other_cases(self):
        for line in self.LINES:
            words = line.split(" ")
            for at, word in enumerate(words):
                for other in ["", word.upper(), word.title(), word + "a", word + "0", "-" + word, "+" + word, "0" + word,
                              word + ".", word + "/", word + "/1", word[:-1]] + self.STRANGE:
                    self.assert_as_written(self.HEAD + " ".join(words[:at] + [other] + words[at + 1:]))

    def test_every_sign_in_the_place_of_another(self):
        for line in self.LINES[::4]:
            for at in range(len(line)):
                for sign in map(chr, range(32, 127)):
                    self.assert_as_written(self.HEAD + line[:at] + sign + line[at + 1:])

    def test_unknown_first_words(self):
        for line in [" ", "  "] + split("Row a 0, rows a 0, ro a 0, a, 0, share, row, -, #, tower r, new a 0, part a 1/2"):
            self.assert_bad(self.HEAD + line, 3)
            self.assert_bad(line, 0)

    def test_names(self):
        for name in ("abcdefghi", "", "A", "aB", "a1", "1", "a-b", "a_b", "a.", "0"):
            for line in self.TELLING:
                self.assert_bad(self.HEAD + line.format(name), 3)

    def test_numbers(self):
        for number in ["", "10 ", " 1"] + split("01, 00, 000000, 1000000, 0000001, 9999999, +1, -1, -0, 1.0, 1e1, x, 1/2, 1_0"):
            for line in split("""wave a {} 0, wave a 5 {}, wave a 5 1 {}, make a s {} 4, make a s 0 {}, carry a w {},
                    turn a r {}, turn a r 0 {}, exactly r {}, sieve r {}, sieve r 1 {}, mend r {}"""):
                self.assert_bad(self.HEAD + line.format(number), 3)

    def test_numbers_at_and_beyond_each_bound(self):
        for line, good, bad in [("make a s 0 {}", (0, 1, 399, 400), (401, 999999)),
                                ("make a s {} 4", (0, 1, 2, 999999), ()),
                                ("exactly r {}", (1, 2, 59, 60), (0, 61, 999999)), ("mend r {}", (1, 8), (0, 9, 60)),
                                ("sieve r {}", (1, 2, 30), (0, 31)), ("sieve r 1 2 3 {}", (1, 30), (0, 31)),
                                ("sieve r {} 1 1 1", (1, 30), (0, 31)), ("wave a {} 0", (1, 999999), (0,)),
                                ("wave a 5 {}", (0, 5), (6, 999999)), ("wave a 5 0 {}", (0, 5), (6,)),
                                ("wave a 999999 {}", (0, 999999), ()), ("carry a w {}", (0, 1, 2, 999999), ()),
                                ("turn a r {}", (0, 1, 2, 999999), ())]:
            for number in good:
                self.assert_run(self.HEAD + line.format(number))
            for number in bad:
                self.assert_bad(self.HEAD + line.format(number), 3)
        self.assert_bad(self.HEAD + "sieve r 1 1 1 1 1", 3)
        self.assert_bad(self.HEAD + "sieve r", 3)
        self.assert_bad(self.HEAD + "turn a r", 3)
        self.assert_bad(self.HEAD + "wave a 5", 3)
        self.assert_bad(self.HEAD + "wave a 0 0", 3)

    def test_parts(self):
        for part in ("0", "1", "1/2", "2/3", "999999999/1000000000", "1/999999999"):
            self.assert_run(f"share a {part}\nmake b a 0 4")
        for part in split("""2/4, 0/1, 1/1, 0/2, 01/2, 1/02, 00, 01, -0, +1, +1/2, -1/2, -1, 2, 3/2, 7, 1/0, 0/0, /2, 1/, /,
                1//2, 1/2/3, 1/-2, 1.5, half, 1000000000000/1000000000001, 1/1000000000000"""):
            self.assert_bad(f"row a 0\nshare b {part}", 1)

    def test_bits(self):
        for many in (1, 2, 399, 400):
            self.assert_run(f"row a {mixed_row(2, many)}\nshow a", [mixed_row(2, many)])
        for bits in ("", mixed_row(2, 401), "0" * 401, "2", "012", "01a", "0_1", "-", "0.1", "O1", "+1"):
            self.assert_bad(f"\nrow a {bits}", 1)
        self.assert_bad("row a", 0)

    def test_places_told_twice(self):
        for places in ("0 0", "1 0 1", "0 1 1", "5 5", "0 1 2 3 0"):
            self.assert_bad(self.HEAD + "turn a r " + places, 3)

    def test_names_told_ahead(self):
        for name in ("s", "r", "w"):
            for line in self.TELLING:
                self.assert_bad(self.HEAD + line.format(name), 3)
        for deed in split("make a s 0 4, make a s 9 4, carry a w 9, mix a r r, turn a r 7, flip a r, multiply a r r"):
            for line in ("share a 1/2", "row a 01", "wave a 2 1", "make a s 0 4", "flip a r", deed):
                self.assert_bad(self.HEAD + deed + "\nshow a\n" + line, 5)

    def test_names_not_told_ahead_or_not_as_such(self):
        for line in self.NAMING:
            for name in ("nobody", "a", "s", "r", "w", "later"):
                self.assert_as_written(self.HEAD + line.format(name))
                self.assert_as_written(self.HEAD + line.format(name) + "\nrow later 01")
        self.assert_bad("show a\nrow a 01", 0)
        self.assert_bad("flip a b\nflip b a", 0)
        self.assert_bad("row r 01\nflip a a", 1)

    def test_a_refused_deed_tells_its_row(self):
        self.assert_run(self.HEAD + "make a s 5 4\nshow a\nflip b a\nshow b", ["refused NoStart", "-", "-", "-"])

    def test_ahead_of_all_answers_and_the_first_goes(self):
        lines = WHOLE.split("\n")
        for at in range(len(lines) + 1):
            self.assert_bad("\n".join(lines[:at] + ["show nobody"] + lines[at:]), at)
            self.assert_bad("\n".join(lines[:at] + ["show nobody"] + lines[at:] + ["row", "row a"]), at)
        self.assert_bad("row a 01\nrow b 2\nrow b 3", 1)
        self.assert_bad("\n\nrow a 2\n\nrow b 3", 2)

    def test_rows_left_out(self):
        # What names a thing that is left out is refused at its row, the rest is told.
        lines = WHOLE.split("\n")
        for at in range(len(lines)):
            self.assert_as_written("\n".join(lines[:at] + lines[at + 1:]))
            self.assert_as_written("\n".join(lines[:at] + [""] + lines[at + 1:]))
            self.assert_as_written("\n".join(lines[:at + 1] + lines[at:]))

    def test_two_refusals_side_by_side(self):
        one = self.assert_bad("row", 0)
        other = self.assert_bad("\n\n\nrow", 3)
        self.assertEqual((one.row, other.row), (0, 3))
        self.assertEqual((BadSheet(5).row, BadSheet(7).row, one.row), (5, 7, 0))
        self.assertIsInstance(one, BitsError)
