import copy
import math
import unittest
from fractions import Fraction

from meanbits.errors import BadPart
from meanbits.parts import is_less, part_in, part_of, part_text, sum_of, times
from tests.helper import by_fraction, numbers

GREAT = 10 ** 12 - 1
SOME = [(0, 1), (1, 1), (-1, 1), (1, 2), (-1, 2), (2, 3), (-7, 3), (5, 6), (12, 1), (-12, 1),
        (GREAT, 1), (-GREAT, 1), (1, GREAT), (-1, GREAT), (GREAT - 1, GREAT), (-(GREAT - 1), GREAT)]


class PartCase(unittest.TestCase):
    def assert_part(self, told, fraction):
        self.assertIs(type(told), tuple)
        self.assertEqual([type(number) for number in told], [int, int])
        self.assertEqual(told, (fraction.numerator, fraction.denominator))
        self.assertEqual(math.gcd(*told), 1)


class PartOf(PartCase):
    def test_small_tops_and_belows_of_either_sign(self):
        for top in range(-13, 14):
            for below in range(-13, 14):
                if below:
                    self.assert_part(part_of(top, below), Fraction(top, below))

    def test_examples(self):
        self.assertEqual(part_of(6, 4), (3, 2))
        self.assertEqual(part_of(6, -4), (-3, 2))
        self.assertEqual(part_of(-6, -4), (3, 2))
        self.assertEqual(part_of(0, -5), (0, 1))

    def test_great_numbers(self):
        for top in numbers(1, 30, GREAT):
            for below in numbers(2, 30, GREAT):
                self.assert_part(part_of(-top, below + 1), Fraction(-top, below + 1))
        self.assert_part(part_of(GREAT, -GREAT), Fraction(-1))
        self.assert_part(part_of(6 * 10 ** 400, 4 * 10 ** 399), Fraction(15))


class SumsAndProducts(PartCase):
    def test_sum_of_none_and_of_one(self):
        self.assertEqual(sum_of([]), (0, 1))
        for part in SOME:
            self.assertEqual(sum_of([part]), part)

    def test_sum_of_two_and_three(self):
        for one in SOME:
            for other in SOME:
                self.assert_part(sum_of([one, other]), by_fraction(one) + by_fraction(other))
                for third in SOME[:8]:
                    wanted = by_fraction(one) + by_fraction(other) + by_fraction(third)
                    self.assert_part(sum_of([one, other, third]), wanted)

    def test_sums_that_come_to_nought(self):
        self.assertEqual(sum_of([(1, 2), (-1, 2)]), (0, 1))
        self.assertEqual(sum_of([(1, 3), (1, 6), (-1, 2)]), (0, 1))
        self.assertEqual(sum_of([(0, 1), (0, 1)]), (0, 1))

    def test_sum_of_many_with_great_belows_and_its_text(self):
        belows = [10 ** 11 + number for number in range(1, 1200, 2)]
        told = sum_of([(1, below) for below in belows])
        self.assert_part(told, sum(Fraction(1, below) for below in belows))
        top, _, below = part_text(told).partition("/")
        for text, number in [(top, told[0]), (below, told[1])]:
            self.assertGreater(len(text), 4300)
            self.assertNotEqual(text[0], "0")
            for sign in reversed(text):
                number, figure = divmod(number, 10)
                self.assertEqual(int(sign), figure)
            self.assertEqual(number, 0)
        self.assertEqual(sum_of([told, (-told[0], told[1])]), (0, 1))
        self.assertEqual(times(told, (told[1], told[0])), (1, 1))

    def test_times(self):
        for one in SOME:
            for other in SOME:
                self.assert_part(times(one, other), by_fraction(one) * by_fraction(other))
        self.assertEqual(times((2, 3), (3, 2)), (1, 1))
        self.assertEqual(times((-2, 3), (3, 4)), (-1, 2))

    def test_what_is_handed_in_stays(self):
        parts = [(1, 2), (1, 3)]
        before = copy.deepcopy(parts)
        self.assertEqual(sum_of(parts), (5, 6))
        self.assertEqual(parts, before)
        parts.append((1, 6))
        self.assertEqual(sum_of(parts), (1, 1))
        self.assertEqual(sum_of(before), (5, 6))


class IsLess(unittest.TestCase):
    def test_all_pairs(self):
        for one in SOME:
            for other in SOME:
                self.assertIs(is_less(one, other), by_fraction(one) < by_fraction(other))

    def test_alike_parts(self):
        for part in SOME:
            self.assertIs(is_less(part, part), False)

    def test_near_parts_of_great_belows(self):
        # They differ by 1 by the product of their belows, as little as parts can.
        one, other = (GREAT - 2, GREAT - 1), (GREAT - 1, GREAT)
        self.assertIs(is_less(one, other), True)
        self.assertIs(is_less(other, one), False)
        self.assertIs(is_less((-1, GREAT - 1), (-1, GREAT)), True)
        self.assertIs(is_less((-1, GREAT), (-1, GREAT - 1)), False)


class Texts(PartCase):
    def test_part_text(self):
        for part, text in [((0, 1), "0"), ((3, 1), "3"), ((-3, 1), "-3"), ((1, 2), "1/2"), ((-1, 2), "-1/2"),
                           ((7, 3), "7/3"), ((10, 11), "10/11"), ((GREAT, 1), "9" * 12),
                           ((-1, GREAT), "-1/" + "9" * 12)]:
            self.assertEqual(part_text(part), text)
            self.assertEqual(part_in(text), part)

    def test_text_of_numbers_about_the_chunks(self):
        for power in (63, 64, 65, 127, 128, 129):
            for number in (10 ** power - 1, 10 ** power, 10 ** power + 1):
                self.assertEqual(part_text((number, 1)), str(number))
                self.assertEqual(part_text((-1, number)), "-1/" + str(number))

    def test_there_and_back(self):
        for top in range(-30, 31):
            for below in range(1, 31):
                part = part_of(top, below)
                told = part_in(part_text(part))
                self.assert_part(told, Fraction(top, below))
        for part in SOME:
            self.assertEqual(part_in(part_text(part)), part)

    def assert_bad(self, text):
        with self.subTest(text):
            with self.assertRaises(BadPart):
                part_in(text)

    def test_bad_texts(self):
        for text in ["2/4", "3/1", "01", "-0", "+1", "", "-", "/", "-/", "1/", "/2", "-/2", "0/1", "0/5", "-0/5",
                     "1/0", "0/0", "-1/0", "1/-2", "-1/-2", "--1", "1/+2", "1//2", "1/2/3", "1/02", "00", "-01",
                     "1 /2", "1/ 2", " 1", "1 ", "1\n", "\n1", "1/2\n", "1.0", "1e2", "1_0", "0x1", "a", "a/b",
                     "one", "\u0661", "\u00b2", "1/\u0662", "\uff11", "-2/4", "-3/1", "10/4"]:
            self.assert_bad(text)

    def test_figures_beyond_twelve(self):
        self.assertEqual(part_in("9" * 12), (GREAT, 1))
        self.assertEqual(part_in("-" + "9" * 12), (-GREAT, 1))
        self.assertEqual(part_in("1/" + "9" * 12), (1, GREAT))
        for text in ["1" + "0" * 12, "-1" + "0" * 12, "1/1" + "0" * 12, "1" + "0" * 12 + "/3", "1" * 5000,
                     "1/" + "1" * 5000, "0" * 13, "1/0000000000003"]:
            self.assert_bad(text)

    def test_a_sign_put_in_left_out_or_in_the_place_of_one(self):
        signs = "0123456789-+/ .x\n"
        for part in [(0, 1), (5, 1), (-5, 1), (12, 35), (-12, 35), (-1, GREAT), (GREAT, 2)]:
            text = part_text(part)
            for place in range(len(text) + 1):
                for sign in signs:
                    self.assert_just_so(text[:place] + sign + text[place:])
                    self.assert_just_so(text[:place] + sign + text[place + 1:])
                self.assert_just_so(text[:place] + text[place + 1:])

    def assert_just_so(self, text):
        """What another reading of the text tells, part_in tells."""
        wanted = reading(text)
        if wanted is None:
            self.assert_bad(text)
        else:
            self.assert_part(part_in(text), wanted)


def reading(text):
    """The fraction that a text writes just so, None where there is none: by plain looks at the signs."""
    words = (text[1:] if text[:1] == "-" else text).split("/")
    if len(words) > 2 or any(not word or len(word) > 12 or set(word) - set("0123456789") for word in words):
        return None
    if any(word[0] == "0" and word != "0" for word in words):
        return None
    top, below = int(words[0]), int(words[-1]) if len(words) == 2 else 1
    if len(words) == 2 and (below < 2 or math.gcd(top, below) != 1):
        return None
    if text[:1] == "-":
        return Fraction(-top, below) if top else None
    return Fraction(top, below)
