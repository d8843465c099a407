import itertools
import unittest
from fractions import Fraction

from meanbits.errors import TooShort
from meanbits.products import product, product_round, product_share
from meanbits.rows import is_row
from meanbits.steady import bit_at, count, steady
from tests.helper import all_rows, all_shares, mixed_row, numbers, stretches

GREAT = [(1, 10 ** 9), (10 ** 9 - 1, 10 ** 9), (0, 1), (1, 1), (1, 2), (333333333, 10 ** 9), (720720, 999999937),
         (500000000, 999999999), (6, 35), (360360, 1000000007 - 70)]


def plain_product(one, other):
    """Bit by bit, the other's taken in order; a bit that is not there is an error."""
    bits = iter(other)
    return "".join(next(bits) if bit == "1" else "0" for bit in one)


def plain_common(one, other):
    """The greatest number that divides both, by going through; of 0 and a number that number."""
    if one == 0:
        return other
    return max(number for number in range(1, min(one, other) + 1) if one % number == 0 and other % number == 0)


class Product(unittest.TestCase):
    def test_examples(self):
        self.assertEqual(product("", ""), "")
        self.assertEqual(product("", "01"), "")
        self.assertEqual(product("000", ""), "000")
        self.assertEqual(product("0110", "01"), "0010")
        self.assertEqual(product("1111", "0110"), "0110")
        self.assertEqual(product("0101", "111"), "0101")

    def test_all_short_rows(self):
        for one, other in itertools.product(all_rows(5), repeat=2):
            if len(other) < one.count("1"):
                with self.assertRaises(TooShort):
                    product(one, other)
            else:
                told = product(one, other)
                self.assertEqual(told, plain_product(one, other))
                self.assertEqual(len(told), len(one))

    def test_just_as_many_bits_as_ones_one_more_one_fewer(self):
        for seed in range(10):
            one = mixed_row(seed, 400)
            other = mixed_row(seed + 50, one.count("1") + 1)
            wanted = plain_product(one, other)
            self.assertEqual(product(one, other), wanted)
            self.assertEqual(product(one, other[:-1]), wanted)
            self.assertTrue(is_row(wanted))
            with self.assertRaises(TooShort):
                product(one, other[:-2])
            with self.assertRaises(TooShort):
                product(one, "")
            self.assertEqual(product(one, other), wanted)

    def test_rows_of_one_sign(self):
        for many in (1, 399, 400):
            row = mixed_row(many, many)
            self.assertEqual(product("1" * many, row), row)
            self.assertEqual(product(row, "1" * many), row)
            self.assertEqual(product("0" * many, ""), "0" * many)
            self.assertEqual(product(row, "0" * many), "0" * many)

    def test_how_far_it_is_off(self):
        for one in all_shares(6):
            for other in all_shares(5):
                share = Fraction(*one) * Fraction(*other)
                row = product(steady(one, one[1] // 2, 40), steady(other, other[1] - 1, 40))
                for start, end in stretches(40):
                    off = row[start:end].count("1") - share * (end - start)
                    self.assertLess(abs(off), Fraction(*other) + 1)


class ProductShare(unittest.TestCase):
    def test_all_short_shares(self):
        for one in all_shares(9):
            for other in all_shares(9):
                wanted = Fraction(*one) * Fraction(*other)
                told = product_share(one, other)
                self.assertEqual(told, (wanted.numerator, wanted.denominator))
                self.assertEqual([type(told), type(told[0]), type(told[1])], [tuple, int, int])

    def test_great_shares(self):
        for one, other in itertools.product(GREAT, repeat=2):
            wanted = Fraction(*one) * Fraction(*other)
            self.assertEqual(product_share(one, other), (wanted.numerator, wanted.denominator))


class ProductRound(unittest.TestCase):
    def test_examples(self):
        self.assertEqual(product_round((1, 2), (1, 2)), (4, 1))
        self.assertEqual(product_round((2, 3), (1, 2)), (3, 1))
        self.assertEqual(product_round((0, 1), (3, 7)), (1, 0))
        self.assertEqual(product_round((3, 7), (0, 1)), (7, 0))
        self.assertEqual(product_round((4, 5), (5, 6)), (15, 10))
        self.assertEqual(product_round((1, 1), (2, 5)), (5, 2))

    def test_all_short_shares_by_any_starts(self):
        for one in all_shares(7):
            for other in all_shares(7):
                many, ones = told = product_round(one, other)
                common = plain_common(one[0], other[1])
                self.assertEqual(told, (one[1] * other[1] // common, one[0] * other[0] // common))
                self.assertEqual([type(told), type(many), type(ones)], [tuple, int, int])
                for start, other_start in itertools.product(range(one[1]), range(other[1])):
                    row = product(steady(one, start, 3 * many), steady(other, other_start, 3 * many))
                    self.assertEqual(row, row[:many] * 3)
                    self.assertEqual(row[:many].count("1"), ones)

    def test_great_shares(self):
        for one, other in itertools.product(GREAT, repeat=2):
            many, ones = product_round(one, other)
            for start, other_start in [(0, 0), (one[1] - 1, other[1] - 1), (one[1] // 2, 0)]:
                for place in [0, 1] + numbers(many, 6, 10 ** 9):
                    def bit(at):
                        return bit_at(one, start, at) and bit_at(other, other_start, count(one, start, at))

                    def first_ones(at):
                        return count(other, other_start, count(one, start, at))

                    self.assertEqual(bit(place), bit(place + many))
                    self.assertEqual(first_ones(place + many) - first_ones(place), ones)
