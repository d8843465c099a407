import itertools
import math
import unittest
from fractions import Fraction

from meanbits.errors import TooShort
from meanbits.reading import nearest, read, read_exactly, simplest_in, twins
from meanbits.spans import span_of
from meanbits.steady import steady
from tests.helper import all_rows, all_shares, by_fraction, mixed_row, numbers

GREAT = 10 ** 12
LARGE = [(70, 199), (1, 200), (199, 200), (123, 200), (89, 144), (1, 2), (0, 1), (1, 1), (99, 199), (2, 199)]


def is_part(thing):
    return type(thing) is tuple and [type(one) for one in thing] == [int, int] and thing[1] > 0 and \
        math.gcd(thing[0], thing[1]) == 1


def plain_simplest(low, high):
    """By going through all belows and tops."""
    low, high = by_fraction(low), by_fraction(high)
    for below in itertools.count(1):
        for top in range(math.floor(low * below), math.ceil(high * below) + 1):
            if low < Fraction(top, below) < high:
                return (top, below)


def is_simplest(low, high, part):
    """Whether nothing simpler lies between, told by the two parts beside it of lesser belows."""
    top, below = part
    low, high, middle = by_fraction(low), by_fraction(high), by_fraction(part)
    if not low < middle < high:
        return False
    if below == 1:
        return top - 1 <= low
    left_below = pow(top, -1, below)
    left_top = (top * left_below - 1) // below
    # All parts between these two have at least the sum of their belows.
    return Fraction(left_top, left_below) <= low and high <= Fraction(top - left_top, below - left_below)


def makes(share, row):
    """Whether the share makes the row, by going through all starts."""
    return any(steady(share, start, len(row)) == row for start in range(share[1]))


def first_shares(many, most):
    """Of each row of so many bits the first share, by below, then top, to most that makes it."""
    told = {}
    for share in all_shares(most):
        for start in range(share[1]):
            told.setdefault(steady(share, start, many), share)
    return told


def plain_nearest(part, shares):
    """By going through all shares, the lesser of two as near."""
    top, below = part
    best, best_off = None, None
    for share in shares:
        off = abs(share[0] * below - top * share[1])
        if best is not None:
            # Off by its share's below is how far it is away.
            mine, other = off * best[1], best_off * share[1]
            if mine > other or mine == other and share[0] * best[1] > best[0] * share[1]:
                continue
        best, best_off = share, off
    return best


class SimplestIn(unittest.TestCase):
    def test_examples(self):
        self.assertEqual(simplest_in((0, 1), (1, 1)), (1, 2))
        self.assertEqual(simplest_in((1, 3), (1, 2)), (2, 5))
        self.assertEqual(simplest_in((-1, 2), (1, 2)), (0, 1))
        self.assertEqual(simplest_in((0, 1), (1, 100)), (1, 101))
        self.assertEqual(simplest_in((-1, 1), (7, 1)), (0, 1))
        self.assertEqual(simplest_in((31, 10), (16, 5)), (19, 6))
        self.assertEqual(simplest_in((-1, 2), (-1, 3)), (-2, 5))
        self.assertEqual(simplest_in((-7, 2), (-5, 2)), (-3, 1))

    def test_by_going_through_all_belows_and_tops(self):
        parts = sorted({Fraction(top, below) for below in range(1, 8) for top in range(-2 * below, 3 * below + 1)})
        parts = [(part.numerator, part.denominator) for part in parts]
        for one, low in enumerate(parts):
            for high in parts[one + 1:]:
                told = simplest_in(low, high)
                self.assertEqual(told, plain_simplest(low, high), (low, high))
                self.assertTrue(is_part(told))
                self.assertTrue(is_simplest(low, high, told))

    def test_whole_ones_between(self):
        for low, high, wanted in [((-5, 1), (5, 1), (-4, 1)), ((-9, 2), (9, 2), (-4, 1)), ((1, 2), (3, 2), (1, 1)),
                                  ((7, 3), (10, 1), (3, 1)), ((3, 1), (4, 1), (7, 2)), ((3, 1), (5, 1), (4, 1)),
                                  ((-4, 1), (-3, 1), (-7, 2)), ((-1, 10 ** 11), (1, 10 ** 11), (0, 1)),
                                  ((-GREAT, 1), (GREAT, 1), (1 - GREAT, 1)), ((5, 1), (GREAT - 1, 1), (6, 1))]:
            self.assertEqual(simplest_in(low, high), wanted)

    def test_neighbours(self):
        shares = sorted(by_fraction(share) for share in all_shares(30))
        for low, high in zip(shares, shares[1:]):
            for whole in (-3, -1, 0, 1, 40):
                low_top, high_top = low.numerator + whole * low.denominator, high.numerator + whole * high.denominator
                told = simplest_in((low_top, low.denominator), (high_top, high.denominator))
                # Of neighbours it is top and top by below and below.
                self.assertEqual(told, (low_top + high_top, low.denominator + high.denominator))

    def test_great_parts_that_are_near(self):
        for seed in range(60):
            top, below, more = numbers(seed, 3, GREAT - 3)
            below += 2
            for low, high in [(Fraction(top, below), Fraction(top + 1, below)),
                              (Fraction(top, below), Fraction(top, below - 1)),
                              (Fraction(-top - 1, below), Fraction(-top, below)),
                              (Fraction(-1, below), Fraction(1, more + 1)),
                              (Fraction(top, below), Fraction(top, below) + Fraction(1, more + 2)),
                              (Fraction(0), Fraction(1, below)), (Fraction(1) - Fraction(1, below), Fraction(1)),
                              (Fraction(top), Fraction(top) + Fraction(1, below))]:
                if low < high:
                    low, high = (low.numerator, low.denominator), (high.numerator, high.denominator)
                    told = simplest_in(low, high)
                    self.assertTrue(is_part(told))
                    self.assertTrue(is_simplest(low, high, told), (low, high, told))

    def test_great_neighbours(self):
        for seed in range(200):
            below, top = numbers(seed, 2, GREAT // 3)
            part = Fraction(top, below + 1)
            low = (part.numerator, part.denominator)
            if part.denominator == 1:
                continue
            high_below = -pow(low[0], -1, low[1]) % low[1]
            high = ((low[0] * high_below + 1) // low[1], high_below)
            self.assertEqual(simplest_in(low, high), (low[0] + high[0], low[1] + high[1]))

    def test_parts_of_any_size(self):
        one, other = 1, 1
        for _ in range(5000):
            one, other = other, one + other
        low, high = sorted([Fraction(one, other), Fraction(one + other, one + 2 * other)])
        told = simplest_in((low.numerator, low.denominator), (high.numerator, high.denominator))
        self.assertEqual(told, (2 * one + other, one + 3 * other))


class Read(unittest.TestCase):
    def test_examples(self):
        self.assertEqual(read("0"), (0, 1))
        self.assertEqual(read("1"), (1, 1))
        self.assertEqual(read("01"), (1, 2))
        self.assertEqual(read("00101"), (2, 5))
        self.assertIsNone(read("0011"))

    def test_rows_of_one_sign(self):
        for many in (1, 2, 3, 50, 400):
            self.assertEqual(read("0" * many), (0, 1))
            self.assertEqual(read("1" * many), (1, 1))

    def test_by_going_through_all_shares(self):
        for many in range(1, 11):
            # Rows of so many bits change with the number only at belows to many, so between two of
            # these there is one to twice as much.
            firsts = first_shares(many, 2 * many)
            without = 0
            for row in map("".join, itertools.product("01", repeat=many)):
                told = read(row)
                self.assertEqual(told, firsts.get(row), row)
                self.assertEqual(told is None, span_of(row) is None)
                self.assertTrue(told is None or is_part(told))
                without += told is None
            self.assertEqual(without > 0, many >= 4)

    def test_long_rows_are_their_shares(self):
        for share in LARGE:
            for start in {0, share[1] // 3, share[1] - 1}:
                for many in (398, 399, 400, 900):
                    self.assertEqual(read(steady(share, start, many)), share)

    def test_rows_too_short_to_be_sure(self):
        for share in LARGE:
            for many in (1, 2, 30, 150, 250):
                row = steady(share, share[1] // 2, many)
                told = read(row)
                self.assertLessEqual(told[1], share[1])
                self.assertTrue(makes(told, row))
                low, high = (by_fraction(part) for part in span_of(row))
                for below in range(1, told[1]):
                    for top in range(below + 1):
                        self.assertFalse(low < Fraction(top, below) < high)
                for top in range(told[0]):
                    self.assertFalse(low < Fraction(top, told[1]) < high)

    def test_long_rows_without_a_span(self):
        for row in (mixed_row(3, 400), "0" * 200 + "1" * 200, steady((89, 144), 5, 399) + "11", "01" * 199 + "100"):
            self.assertIsNone(read(row))

    def test_an_empty_row(self):
        told = read("001")
        with self.assertRaises(TooShort):
            read("")
        self.assertEqual(read("001"), told)


class Nearest(unittest.TestCase):
    def test_examples(self):
        self.assertEqual(nearest((1, 2), 1), (0, 1))
        self.assertEqual(nearest((2, 3), 1), (1, 1))
        self.assertEqual(nearest((2, 3), 2), (1, 2))
        self.assertEqual(nearest((3, 4), 2), (1, 2))
        self.assertEqual(nearest((4, 5), 2), (1, 1))
        self.assertEqual(nearest((5, 12), 11), (3, 7))

    def test_what_is_of_a_below_to_most_is_itself(self):
        for most in (1, 2, 3, 17, 60):
            for share in all_shares(most):
                self.assertEqual(nearest(share, most), share)

    def test_by_going_through_all_shares(self):
        parts = all_shares(14) + [(1, 61), (60, 61), (35, 97), (123, 200), (1, 200), (199, 200)]
        for seed in range(12):
            top, below = sorted(numbers(seed, 2, GREAT - 2))
            part = Fraction(top, below + 1)
            parts.append((part.numerator, part.denominator))
        parts += [(1, GREAT - 1), (GREAT - 2, GREAT - 1), (499999999999, GREAT - 1), (333333333334, GREAT - 1)]
        for most in list(range(1, 13)) + [30, 59, 60]:
            shares = all_shares(most)
            for part in parts:
                told = nearest(part, most)
                self.assertEqual(told, plain_nearest(part, shares), (part, most))
                self.assertTrue(is_part(told))

    def test_each_most(self):
        for most in range(1, 61):
            shares = all_shares(most)
            for part in [(0, 1), (1, 1), (1, 2), (314159265358, 999999999989), (1, 120), (119, 120), (41, 120)]:
                self.assertEqual(nearest(part, most), plain_nearest(part, shares), (part, most))

    def test_the_lesser_of_two_as_near(self):
        for most in (1, 2, 3, 4, 5, 8, 21, 60):
            shares = sorted(by_fraction(share) for share in all_shares(most))
            for low, high in zip(shares, shares[1:]):
                middle = (low + high) / 2
                near = Fraction(1, 10 ** 11)
                for part, wanted in [(middle, low), (middle - near, low), (middle + near, high)]:
                    told = nearest((part.numerator, part.denominator), most)
                    self.assertEqual(told, (wanted.numerator, wanted.denominator))

    def test_a_very_great_most(self):
        self.assertEqual(nearest((1, 3), 10 ** 40), (1, 3))
        below = 10 ** 60 + 7
        self.assertEqual(nearest((1, below), 10 ** 40), (0, 1))
        told = nearest((below // 3, below), 10 ** 40)
        self.assertEqual(told, (1, 3))


class ReadExactly(unittest.TestCase):
    def test_rows_of_just_as_many_bits_and_more(self):
        for most in range(1, 10):
            for share in all_shares(most):
                for start in range(share[1]):
                    for many in (2 * most - 2, 2 * most - 1, 3 * most + 1):
                        if many:
                            told = read_exactly(steady(share, start, many), most)
                            self.assertEqual(told, share)
                            self.assertTrue(is_part(told))

    def test_the_greatest_belows(self):
        for most in (30, 59, 60, 200):
            for share in [(1, most), (most - 1, most), (1, most - 1), (0, 1), (1, 1), (1, 2), (most // 2, most + 1)]:
                if math.gcd(*share) == 1 and share[1] <= most:
                    for start in (0, share[1] - 1):
                        for many in (2 * most - 2, 2 * most - 1, 400):
                            self.assertEqual(read_exactly(steady(share, start, max(many, 2 * most - 2)), most), share)

    def test_all_rows(self):
        for most in range(1, 7):
            shares = all_shares(most)
            for many in range(max(1, 2 * most - 2), 11):
                making = {}
                for share in shares:
                    for start in range(share[1]):
                        making.setdefault(steady(share, start, many), set()).add(share)
                for row in map("".join, itertools.product("01", repeat=many)):
                    wanted = making.get(row, {None})
                    # There never are two.
                    self.assertEqual(len(wanted), 1)
                    self.assertEqual({read_exactly(row, most)}, wanted, (row, most))

    def test_none_where_the_below_is_beyond(self):
        for share in [(1, 3), (2, 5), (3, 7), (70, 199), (199, 200)]:
            row = steady(share, 0, 400)
            self.assertIsNone(read_exactly(row, share[1] - 1))
            self.assertEqual(read_exactly(row, share[1]), share)
            self.assertIsNone(read_exactly(mixed_row(5, 400), share[1]))

    def test_too_short(self):
        for most in range(2, 61):
            for many in {0, 1, most - 1, 2 * most - 3} - {2 * most - 2}:
                for row in ("0" * many, "1" * many, steady((1, most), 0, many), mixed_row(2, many)):
                    with self.assertRaises(TooShort):
                        read_exactly(row, most)

    def test_most_of_one(self):
        with self.assertRaises(TooShort):
            read_exactly("", 1)
        for row in all_rows(5):
            if row:
                wanted = {"0": (0, 1), "1": (1, 1)}.get(row[0]) if len(set(row)) == 1 else None
                self.assertEqual(read_exactly(row, 1), wanted)

    def test_the_same_again_behind_refusals(self):
        told = read_exactly("00101001", 5), nearest((5, 12), 7), twins(4), simplest_in((0, 1), (1, 3))
        with self.assertRaises(TooShort):
            read_exactly("0010100", 5)
        again = read_exactly("00101001", 5), nearest((5, 12), 7), twins(4), simplest_in((0, 1), (1, 3))
        self.assertEqual(again, told)


class Twins(unittest.TestCase):
    def test_each_most(self):
        for most in list(range(2, 61)) + [101, 200]:
            told = twins(most)
            self.assertEqual((type(told), len(told)), (tuple, 3))
            row, one, other = told
            self.assertEqual((type(row), len(row)), (str, 2 * most - 3))
            self.assertNotEqual(one, other)
            for share in (one, other):
                self.assertTrue(is_part(share))
                self.assertTrue(0 <= share[0] <= share[1] <= most)
                self.assertTrue(makes(share, row))
            # So one bit fewer does not tell.
            with self.assertRaises(TooShort):
                read_exactly(row, most)
