import copy
import itertools
import unittest
from fractions import Fraction

from meanbits.errors import TooMuch, UnlikeRows
from meanbits.maker import made
from meanbits.mixing import mixed, mixed_bound
from tests.helper import all_rows, by_fraction, mixed_row, numbers, stretches


def by_steps(rows, weights, below):
    """The mixture by the words of the point: an error carried over the sums of weights."""
    error, row = 0, ""
    for place in range(len(rows[0])):
        error += sum(weight for other, weight in zip(rows, weights) if other[place] == "1")
        row += "1" if error >= below else "0"
        if error >= below:
            error -= below
    return row


class Mixed(unittest.TestCase):
    def test_examples(self):
        self.assertEqual(mixed(["1111", "0000"], [1, 1], 2), "0101")
        self.assertEqual(mixed(["0101", "0011"], [1, 1], 2), "0011")
        self.assertEqual(mixed(["110", "011"], [1, 2], 3), "011")
        self.assertEqual(mixed(["1010"], [1], 1), "1010")

    def test_the_steps_of_small_rows(self):
        for many in range(4):
            of_one_length = [row for row in all_rows(3) if len(row) == many]
            for rows in itertools.product(of_one_length, repeat=2):
                for weights in itertools.product(range(4), repeat=2):
                    for below in range(max(1, sum(weights)), sum(weights) + 3):
                        told = mixed(list(rows), list(weights), below)
                        self.assertEqual(told, by_steps(rows, weights, below))

    def test_the_steps_of_many_long_rows(self):
        for many in range(1, 9):
            rows = [mixed_row(seed, 400) for seed in range(many)]
            for weights in (numbers(many, many, 10 ** 6), [0] * many, [10 ** 6] * many, [0] * (many - 1) + [5]):
                for below in (max(1, sum(weights)), sum(weights) + 1, 10 ** 7):
                    self.assertEqual(mixed(rows, weights, below), by_steps(rows, weights, below))

    def test_weights_of_nought(self):
        self.assertEqual(mixed(["111", "010"], [0, 0], 1), "000")
        self.assertEqual(mixed(["111", "010"], [0, 1], 1), "010")
        self.assertEqual(mixed(["111", "010"], [3, 0], 3), "111")

    def test_rows_without_bits(self):
        self.assertEqual(mixed([""], [1], 1), "")
        self.assertEqual(mixed(["", "", ""], [1, 0, 4], 5), "")
        with self.assertRaises(TooMuch):
            mixed(["", ""], [1, 1], 1)

    def test_too_much(self):
        self.assertEqual(mixed(["0", "0"], [2, 3], 5), "0")
        for rows in (["0", "0"], ["1", "1"], ["1", "0"]):
            with self.assertRaises(TooMuch):
                mixed(rows, [2, 3], 4)
        with self.assertRaises(TooMuch):
            mixed(["0"], [2], 1)
        with self.assertRaises(TooMuch):
            mixed(["1"] * 8, [1] * 8, 7)

    def test_unlike_rows_go_first(self):
        for rows in (["0", ""], ["", "1"], ["0", "01"], ["01", "01", "0"], ["0", "01", "01"], ["01", "0", "01"]):
            for weights, below in (([0] * len(rows), 1), ([1] * len(rows), 9), ([9] * len(rows), 1)):
                with self.assertRaises(UnlikeRows):
                    mixed(rows, weights, below)

    def test_what_is_handed_in_stays(self):
        rows, weights = ["0110", "1111"], [2, 3]
        before = copy.deepcopy((rows, weights))
        told = mixed(rows, weights, 5)
        with self.assertRaises(TooMuch):
            mixed(rows, weights, 4)
        self.assertEqual((rows, weights), before)
        self.assertEqual(mixed(rows, weights, 5), told)


class MixedBound(unittest.TestCase):
    def test_examples(self):
        self.assertEqual(mixed_bound([], [], 1), (1, 1))
        self.assertEqual(mixed_bound([], [], 7), (1, 1))
        self.assertEqual(mixed_bound([(1, 1), (1, 1)], [1, 1], 2), (2, 1))
        self.assertEqual(mixed_bound([(1, 2)], [1], 3), (7, 6))
        self.assertEqual(mixed_bound([(1, 2), (2, 3)], [2, 3], 6), (3, 2))
        self.assertEqual(mixed_bound([(5, 1)], [0], 3), (1, 1))

    def test_by_fractions_in_lowest_terms(self):
        parts = [(0, 1), (1, 1), (1, 2), (3, 2), (-1, 3), (7, 10 ** 12 - 1)]
        for many in range(1, 4):
            for bounds in itertools.product(parts, repeat=many):
                for weights in ([1] * many, list(range(many)), [10 ** 6] * many):
                    for below in (1, 6, 10 ** 7):
                        told = mixed_bound(list(bounds), weights, below)
                        weighed = sum(weight * by_fraction(bound) for weight, bound in zip(weights, bounds))
                        wanted = Fraction(weighed) / below + 1
                        self.assertEqual(told, (wanted.numerator, wanted.denominator))
                        self.assertIs(type(told), tuple)

    def test_what_is_handed_in_stays(self):
        bounds, weights = [(1, 2), (3, 4)], [1, 2]
        self.assertEqual(mixed_bound(bounds, weights, 4), (3, 2))
        self.assertEqual((bounds, weights), ([(1, 2), (3, 4)], [1, 2]))

    def test_mixtures_keep_it(self):
        shares = [(1, 3), (3, 5), (0, 1), (6, 7)]
        for weights in ([1, 1, 1, 1], [5, 0, 2, 3], [1, 9, 0, 4]):
            for below in (sum(weights), sum(weights) + 3):
                rows = [made((share[1], [share[0]] * 50), share[1] - 1) for share in shares]
                row = mixed(rows, weights, below)
                bound = by_fraction(mixed_bound([(1, 1)] * 4, weights, below))
                mean = sum(weight * by_fraction(share) for weight, share in zip(weights, shares)) / below
                for one, other in stretches(50):
                    self.assertLess(abs(row[one:other].count("1") - mean * (other - one)), bound)
