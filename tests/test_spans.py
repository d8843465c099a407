import copy
import unittest
from fractions import Fraction

from meanbits.errors import TooShort
from meanbits.maker import made
from meanbits.spans import common_span, shows_uneven, span_of, uneven
from meanbits.steady import steady
from tests.helper import ODD_THINGS, all_rows, all_shares, altered, by_fraction, mixed_row, stretches

ROWS = [row for row in all_rows(9) if row]
LARGE = [(70, 199), (1, 200), (199, 200), (123, 200), (89, 144)]
MADE = [steady(share, start, many) for share in LARGE for start in (0, share[1] - 1) for many in (30, 150, 400)]


def plain_bounds(row):
    """Low and high by going through all stretches."""
    sums = [row[:place].count("1") for place in range(len(row) + 1)]
    low, high = Fraction(-9), Fraction(9)
    for one, other in stretches(len(row)):
        ones, bits = sums[other] - sums[one], other - one
        # Without fractions where they cannot change anything: there are many stretches.
        if (ones - 1) * low.denominator > low.numerator * bits:
            low = Fraction(ones - 1, bits)
        if (ones + 1) * high.denominator < high.numerator * bits:
            high = Fraction(ones + 1, bits)
    return low, high


def as_span(low, high):
    if low >= high:
        return None
    return ((low.numerator, low.denominator), (high.numerator, high.denominator))


def plain_unevens(row):
    """All tuples (one, other, many) that show it, the least many first, then one, then other."""
    for many in range(1, len(row) + 1):
        for one in range(len(row) - many + 1):
            for other in range(one + 1, len(row) - many + 1):
                if abs(row[one:one + many].count("1") - row[other:other + many].count("1")) > 1:
                    yield (one, other, many)


def plainly_shows(row, thing):
    """Whether a thing shows it, looked at anew."""
    if type(thing) is not tuple or [type(part) for part in thing] != [int, int, int]:
        return False
    return thing in list(plain_unevens(row))


class SpanOf(unittest.TestCase):
    def test_examples(self):
        self.assertEqual(span_of("0"), ((-1, 1), (1, 1)))
        self.assertEqual(span_of("1"), ((0, 1), (2, 1)))
        self.assertEqual(span_of("01"), ((0, 1), (1, 1)))
        self.assertEqual(span_of("001"), ((0, 1), (1, 2)))
        self.assertEqual(span_of("00101"), ((1, 3), (1, 2)))
        self.assertIsNone(span_of("0011"))

    def test_rows_of_one_sign(self):
        for many in (1, 2, 3, 400):
            self.assertEqual(span_of("0" * many), ((-1, many), (1, many)))
            low = (0, 1) if many == 1 else (many - 1, many)
            high = (2, 1) if many == 1 else (many + 1, many)
            self.assertEqual(span_of("1" * many), (low, high))

    def test_by_going_through_all_stretches(self):
        for row in ROWS:
            told = span_of(row)
            self.assertEqual(told, as_span(*plain_bounds(row)), row)
            if told is not None:
                self.assertEqual([type(part) for part in (told, *told)], [tuple] * 3)

    def test_long_rows(self):
        for row in MADE[::5] + ["01" * 200, mixed_row(9, 400)]:
            self.assertEqual(span_of(row), as_span(*plain_bounds(row)))

    def test_a_share_makes_the_row_just_where_it_lies_between(self):
        shares = all_shares(9)
        for many in range(1, 9):
            rows = {share: {made((share[1], [share[0]] * many), start) for start in range(share[1])} for share in shares}
            for row in [row for row in ROWS if len(row) == many]:
                span = span_of(row)
                for share in shares:
                    inside = span is not None and by_fraction(span[0]) < Fraction(*share) < by_fraction(span[1])
                    self.assertEqual(row in rows[share], inside, (row, share))

    def test_made_rows_have_their_share_between(self):
        for share in LARGE:
            for start in (0, share[1] // 2, share[1] - 1):
                for many in (1, 2, 199, 400):
                    low, high = span_of(steady(share, start, many))
                    self.assertTrue(by_fraction(low) < Fraction(*share) < by_fraction(high))

    def test_a_row_longer_than_are_handed_in_first(self):
        row = steady((89, 144), 5, 900)
        self.assertEqual(span_of(row), as_span(*plain_bounds(row)))


class Uneven(unittest.TestCase):
    def test_examples(self):
        self.assertEqual(uneven("0011"), (0, 2, 2))
        self.assertEqual(uneven("1100"), (0, 2, 2))
        self.assertEqual(uneven("10010100"), None)
        self.assertEqual(uneven("0010101011"), (0, 8, 2))
        self.assertEqual(uneven("001001011011"), (0, 7, 2))

    def test_the_least(self):
        for row in ROWS + ["0" * 200 + "1" * 200, mixed_row(9, 60), "0" + "01" * 20 + "1"]:
            wanted = next(plain_unevens(row), None)
            self.assertEqual(uneven(row), wanted, row)
            self.assertEqual(wanted is None, span_of(row) is not None)

    def test_none_where_there_is_a_span(self):
        for row in MADE:
            self.assertIsNotNone(span_of(row))
            self.assertIsNone(uneven(row))

    def test_long_rows_with_one_bit_turned(self):
        for row in MADE:
            for place in (0, len(row) // 2, len(row) - 1):
                other = row[:place] + "10"[int(row[place])] + row[place + 1:]
                told = uneven(other)
                self.assertEqual(told is None, span_of(other) is not None)
                if told is not None:
                    self.assertEqual([type(part) for part in (told, *told)], [tuple, int, int, int])
                    self.assertIs(shows_uneven(other, told), True)


class ShowsUneven(unittest.TestCase):
    def assert_shows(self, row, thing, wanted):
        before = copy.deepcopy(thing)
        self.assertIs(shows_uneven(row, thing), wanted, (row, thing))
        self.assertEqual(thing, before)

    def test_every_tuple(self):
        for row in ROWS[::9] + ["0011", "110100"]:
            shown = set(plain_unevens(row))
            reach = range(-2, len(row) + 3)
            for one in reach:
                for other in reach:
                    for many in reach:
                        self.assert_shows(row, (one, other, many), (one, other, many) in shown)

    def test_not_by_the_least_alone(self):
        self.assertEqual(uneven("00011100"), (0, 3, 2))
        for thing in [(1, 3, 2), (0, 4, 2), (3, 6, 2), (0, 3, 3), (0, 2, 4), (0, 3, 4)]:
            self.assert_shows("00011100", thing, thing in list(plain_unevens("00011100")))
        self.assert_shows("00011100", (0, 3, 3), True)
        self.assert_shows("00011100", (3, 6, 2), True)

    def test_altered_at_one_place(self):
        for row in ["0011", "110100", "00011100", "0010101011", mixed_row(9, 30)]:
            shown = list(plain_unevens(row))
            for thing in shown[:3] + shown[-3:]:
                self.assert_shows(row, thing, True)
                for other in altered(thing):
                    self.assert_shows(row, other, plainly_shows(row, other))

    def test_one_place_otherwise(self):
        row, (one, other, many) = "0011", uneven("0011")
        for thing in [(other, one, many), (one, one, many), (other, other, many), [one, other, many], (one, other),
                      (one, other, many, many), (one, other, many, None), (-1, other, many), (-4, other, many),
                      (one, -2, many), (one, other, -many), (one, other, 0), (one, other, many + 1),
                      (one, other, many - 1), (one, other + 1, many), (one, other - 1, many), (one + 1, other, many),
                      (False, other, many), (one, "2", many), (one, other, "2"), (one, other, None), (one, None, many),
                      (None, other, many), (one, other, True), (one, True, many), (one, other, [many]),
                      ((one, other, many),), [(one, other, many)], (one, (other, many)), (one, other, 10 ** 30),
                      (one, 10 ** 30, many), (-10 ** 30, other, many), "022", None, True, 22]:
            self.assert_shows(row, thing, False)
        # 1 is a number, True is none.
        self.assert_shows("10011", (1, 3, 2), True)
        self.assert_shows("10011", (True, 3, 2), False)

    def test_rows_with_a_span(self):
        for row in ["0", "1", "01", "00101", "0" * 400]:
            for thing in [(0, 1, 1), (0, 1, 2), (0, 2, 2), (0, 0, 1), (0, 200, 200)]:
                self.assert_shows(row, thing, False)

    def test_other_things(self):
        for row in ["0", "0011", "00011100"]:
            for thing in ODD_THINGS:
                self.assert_shows(row, thing, False)


class CommonSpan(unittest.TestCase):
    def plain(self, rows):
        bounds = [plain_bounds(row) for row in rows]
        if any(low >= high for low, high in bounds):
            return None
        return as_span(max(low for low, high in bounds), min(high for low, high in bounds))

    def test_examples(self):
        self.assertEqual(common_span(["001", "01"]), ((0, 1), (1, 2)))
        self.assertEqual(common_span(["00101", "001"]), ((1, 3), (1, 2)))
        self.assertIsNone(common_span(["000", "111"]))
        self.assertIsNone(common_span(["0", "0011"]))

    def test_one_row(self):
        for row in ROWS + MADE[::7]:
            self.assertEqual(common_span([row]), span_of(row))

    def test_two_rows(self):
        rows = [row for row in ROWS if len(row) < 6]
        nothing = 0
        for one in rows:
            for other in rows:
                wanted = self.plain([one, other])
                self.assertEqual(common_span([one, other]), wanted)
                nothing += wanted is None and span_of(one) is not None and span_of(other) is not None
        self.assertGreater(nothing, 0)

    def test_many_rows(self):
        for share in LARGE:
            rows = [steady(share, 7 * seed, 20 + 3 * seed) for seed in range(8)]
            told = common_span(rows)
            self.assertEqual(told, self.plain(rows))
            self.assertEqual([type(part) for part in (told, *told)], [tuple] * 3)
            self.assertIsNone(common_span(rows[:7] + ["0011"]))
            self.assertIsNone(common_span(["0011"] + rows[:7]))
            self.assertIsNone(common_span(rows[:6] + ["0" * 400, "1" * 400]))

    def test_ends_that_touch(self):
        # High of the one is low of the other: nothing lies between.
        self.assertEqual(span_of("00"), ((-1, 2), (1, 2)))
        self.assertEqual(span_of("11"), ((1, 2), (3, 2)))
        self.assertIsNone(common_span(["00", "11"]))

    def test_what_is_handed_in_stays(self):
        rows = ["01", "001"]
        told = common_span(rows)
        with self.assertRaises(TooShort):
            common_span(rows + [""])
        self.assertEqual(rows, ["01", "001"])
        self.assertEqual(common_span(rows), told)


class Refused(unittest.TestCase):
    def test_an_empty_row(self):
        for ask in (span_of, uneven):
            with self.assertRaises(TooShort):
                ask("")
        for thing in [(0, 2, 2), (0, 1, 1), (0, 0, 0), None, (), "", [0, 2, 2], True]:
            with self.assertRaises(TooShort):
                shows_uneven("", thing)

    def test_one_empty_row_among_several(self):
        for rows in ([""], ["", ""], ["", "01"], ["01", ""], ["01", "", "001"], ["0011", ""], ["", "0011"],
                     ["000", "111", ""], ["0011", "01", "", "01"]):
            with self.assertRaises(TooShort):
                common_span(rows)

    def test_the_same_again_behind_refusals(self):
        told = span_of("00101"), uneven("0011"), shows_uneven("0011", (0, 2, 2))
        for ask in (span_of, uneven):
            with self.assertRaises(TooShort):
                ask("")
        self.assertEqual((span_of("00101"), uneven("0011"), shows_uneven("0011", (0, 2, 2))), told)
