import copy
import itertools
import math
import unittest
from fractions import Fraction

from meanbits.errors import TooMuch, TooShort, UnlikeRows
from meanbits.maker import errors, made
from meanbits.rows import is_row
from meanbits.steady import steady
from meanbits.towers import fold, read_by_tower, tower, tower_sum, tower_sure
from tests.helper import all_rows, all_shares, mixed_row, numbers

WAVES = [(1, [0, 1, 1, 0]), (2, [1] * 9), (3, []), (5, [0]), (5, [5]), (5, [5, 0, 3, 2, 2]), (7, [3] * 20),
         (10 ** 6, numbers(1, 400, 10 ** 6)), (10 ** 6, [10 ** 6 - 1] * 400), (199, [70] * 400), (4, [4] * 30)]


def plain_fold(folded, many):
    """Running sums of running sums, written out."""
    for _ in range(many):
        folded = [sum(folded[:place + 1]) for place in range(len(folded))]
    return folded[-1] if folded else 0


def plain_sum(rows):
    return sum(plain_fold([int(bit) for bit in row], len(rows) - at) for at, row in enumerate(rows))


def plain_read(rows, most):
    """The least share by going through all."""
    whole = plain_fold([1] * len(rows[0]), len(rows))
    together = plain_sum(rows)
    found = [Fraction(*share) for share in all_shares(most) if together <= Fraction(*share) * whole < together + 1]
    return (min(found).numerator, min(found).denominator) if found else None


class Fold(unittest.TestCase):
    def test_examples(self):
        self.assertEqual(fold([], 1), 0)
        self.assertEqual(fold([], 4), 0)
        self.assertEqual(fold([5], 1), 5)
        self.assertEqual(fold([5], 4), 5)
        self.assertEqual(fold([1, 2, 3], 1), 6)
        self.assertEqual(fold([1, 2, 3], 2), 10)
        self.assertEqual(fold([1, 2, 3], 3), 15)
        self.assertEqual(fold([1, -1], 2), 1)

    def test_by_running_sums(self):
        for many in range(1, 5):
            for size in range(5):
                for folded in itertools.product((-2, 0, 1, 3), repeat=size):
                    self.assertEqual(fold(list(folded), many), plain_fold(list(folded), many))

    def test_many_numbers(self):
        for many in range(1, 5):
            for folded in (numbers(many, 400, 10 ** 6), [-number for number in numbers(many, 400, 10 ** 6)], [1] * 400,
                           [0] * 400, [number - 500 for number in numbers(many, 399, 1000)]):
                before = list(folded)
                told = fold(folded, many)
                self.assertEqual(told, plain_fold(folded, many))
                self.assertIs(type(told), int)
                self.assertEqual(folded, before)


class Tower(unittest.TestCase):
    def test_examples(self):
        self.assertEqual(tower((2, [1, 1, 1, 1]), 1), ["0101"])
        # Errors 1, 0, 1, 0 behind the steps of the first row.
        self.assertEqual(tower((2, [1, 1, 1, 1]), 2), ["0101", "0010"])
        self.assertEqual(tower((3, []), 3), ["", "", ""])

    def test_each_row_by_the_errors_of_the_one_ahead(self):
        for below, tops in WAVES:
            for many in range(1, 5):
                before = list(tops)
                told = tower((below, tops), many)
                self.assertEqual((type(told), len(told)), (list, many))
                wave = (below, tops)
                for row in told:
                    self.assertTrue(is_row(row))
                    self.assertEqual(row, made(wave, 0))
                    wave = (below, errors(wave, 0)[1:])
                self.assertEqual(tops, before)

    def test_told_lists_are_the_askers_own(self):
        wave = (3, [1, 2, 2])
        told = tower(wave, 2)
        wanted = list(told)
        told.clear()
        self.assertEqual(tower(wave, 2), wanted)
        self.assertIsNot(tower(wave, 2), tower(wave, 2))
        self.assertEqual(wave, (3, [1, 2, 2]))


class TowerSum(unittest.TestCase):
    def test_examples(self):
        self.assertEqual(tower_sum(["0101"]), 2)
        self.assertEqual(tower_sum(["0101", "0010"]), 5)
        self.assertEqual(tower_sum([""]), 0)
        self.assertEqual(tower_sum(["", "", ""]), 0)
        self.assertEqual(tower_sum(["1", "0", "1"]), 2)

    def test_any_rows(self):
        for rows in itertools.product(all_rows(3), repeat=3):
            if len({len(row) for row in rows}) == 1:
                for some in (rows[:1], rows[:2], rows):
                    self.assertEqual(tower_sum(list(some)), plain_sum(some))

    def test_long_rows(self):
        for many in range(1, 5):
            rows = [mixed_row(seed, 400) for seed in range(many)]
            before = list(rows)
            told = tower_sum(rows)
            self.assertEqual(told, plain_sum(rows))
            self.assertIs(type(told), int)
            self.assertEqual(rows, before)

    def test_of_a_tower_it_is_the_tops_folded_rounded_down(self):
        for below, tops in WAVES + [(below, numbers(seed, 30, below)) for below in range(1, 9) for seed in range(5)]:
            for many in range(1, 5):
                self.assertEqual(tower_sum(tower((below, tops), many)), plain_fold(tops, many) // below)

    def test_unlike_rows(self):
        for rows in (["", "0"], ["0", ""], ["0", "01"], ["01", "01", "0"], ["0", "01", "01"], ["01", "0", "01", "01"]):
            before = list(rows)
            with self.assertRaises(UnlikeRows):
                tower_sum(rows)
            self.assertEqual(rows, before)


class TowerSure(unittest.TestCase):
    def test_examples(self):
        self.assertEqual([tower_sure(bits, 1) for bits in range(8)], [1, 1, 2, 2, 2, 2, 3, 3])
        self.assertEqual([tower_sure(bits, 2) for bits in range(6)], [1, 1, 2, 3, 3, 4])
        self.assertEqual(tower_sure(400, 4), 32905)

    def test_the_greatest_most(self):
        for many in range(1, 5):
            sums = [1] * 400
            for _ in range(many):
                sums = list(itertools.accumulate(sums))
            for bits in range(401):
                whole = sums[bits - 1] if bits else 0
                told = tower_sure(bits, many)
                self.assertIs(type(told), int)
                self.assertGreaterEqual(told, 1)
                self.assertLessEqual(told * (told - 1), whole)
                self.assertGreater((told + 1) * told, whole)

    def test_no_bits(self):
        for many in range(1, 5):
            self.assertEqual(tower_sure(0, many), 1)

    def test_very_many_bits(self):
        for bits in (10 ** 18, 10 ** 18 - 1, 123456789012345678):
            for many in range(1, 5):
                whole = math.comb(bits + many - 1, many)
                told = tower_sure(bits, many)
                self.assertTrue(told * (told - 1) <= whole < (told + 1) * told)


class ReadByTower(unittest.TestCase):
    def test_towers_of_steady_shares(self):
        for bits in (1, 2, 3, 6, 7, 12, 20):
            for many in range(1, 5):
                most = min(tower_sure(bits, many), 9)
                for share in all_shares(most):
                    rows = tower((share[1], [share[0]] * bits), many)
                    self.assertEqual(rows[0], steady(share, 0, bits))
                    told = read_by_tower(rows, most)
                    self.assertEqual(told, share)
                    self.assertEqual([type(told), type(told[0]), type(told[1])], [tuple, int, int])

    def test_long_towers_of_steady_shares(self):
        for bits, many, most in [(400, 1, 20), (400, 2, 200), (400, 3, 200), (400, 4, 200), (120, 2, 60), (30, 4, 60)]:
            most = min(most, tower_sure(bits, many))
            for share in all_shares(most)[::97] + [(0, 1), (1, 1), (1, most), (most - 1, most)]:
                rows = tower((share[1], [share[0]] * bits), many)
                self.assertEqual(read_by_tower(rows, most), share)

    def test_told_mosts_are_handed_in_again(self):
        for bits, many in [(400, 4), (400, 3), (300, 4)]:
            most = tower_sure(bits, many)
            for share in [(1, 3), (70, 199), (most - 1, most), (1, most), (0, 1), (1, 1)]:
                self.assertEqual(read_by_tower(tower((share[1], [share[0]] * bits), many), most), share)
            with self.assertRaises(TooMuch):
                read_by_tower(tower((3, [1] * bits), many), most + 1)

    def test_any_short_rows(self):
        kinds = set()
        for many in range(1, 4):
            for bits in range(1, 5 if many < 3 else 4):
                short = [row for row in all_rows(bits) if len(row) == bits]
                for rows in itertools.product(short, repeat=many):
                    for most in range(1, tower_sure(bits, many) + 1):
                        told = read_by_tower(list(rows), most)
                        self.assertEqual(told, plain_read(rows, most), (rows, most))
                        kinds.add(told is None)
        self.assertEqual(kinds, {True, False})

    def test_any_long_rows(self):
        for bits, many in [(30, 1), (30, 2), (60, 2), (20, 3), (400, 2), (400, 4)]:
            for seed in range(12):
                rows = [mixed_row(seed + at, bits) for at in range(many)]
                if seed % 3 == 0:
                    # Made of numbers beyond most.
                    rows = tower((997, [seed * 83 + 5] * bits), many)
                for most in {1, 2, min(13, tower_sure(bits, many)), min(60, tower_sure(bits, many))}:
                    self.assertEqual(read_by_tower(rows, most), plain_read(rows, most))

    def test_rows_of_one_sign(self):
        for many in range(1, 5):
            self.assertEqual(read_by_tower(["0" * 9] * many, 3), (0, 1))
            # More than any share comes to.
            self.assertEqual(read_by_tower(["1" * 9] * many, 3), (1, 1) if many == 1 else None)
            self.assertEqual(read_by_tower(["1" * 9] + ["0" * 9] * (many - 1), 3), (1, 1))

    def test_unlike_rows_first(self):
        for rows in (["", "0"], ["0", ""], ["01", "0"], ["01" * 9, "01" * 9, "01"], ["", "", "0"]):
            for most in (1, 2, 60, 10 ** 9):
                before = list(rows)
                with self.assertRaises(UnlikeRows):
                    read_by_tower(rows, most)
                self.assertEqual(rows, before)

    def test_then_too_much(self):
        for bits in (0, 1, 2, 5, 12, 100, 400):
            for many in range(1, 5):
                rows = ["0" * bits] * many
                sure = tower_sure(bits, many)
                for most in (sure + 1, sure + 2, 10 ** 40):
                    with self.assertRaises(TooMuch):
                        read_by_tower(rows, most)
                if bits:
                    self.assertEqual(read_by_tower(rows, sure), (0, 1))

    def test_then_too_short(self):
        for many in range(1, 5):
            with self.assertRaises(TooShort):
                read_by_tower([""] * many, 1)

    def test_the_same_again_behind_refusals(self):
        rows = tower((3, [1] * 12), 2)
        told = copy.deepcopy((read_by_tower(rows, 3), tower_sum(rows), tower_sure(12, 2), fold([1, 2], 2), rows))
        for wrong, most, refusal in [(rows + ["0"], 1, UnlikeRows), (rows, 99, TooMuch), ([""], 1, TooShort)]:
            with self.assertRaises(refusal):
                read_by_tower(wrong, most)
        self.assertEqual((read_by_tower(rows, 3), tower_sum(rows), tower_sure(12, 2), fold([1, 2], 2), rows), told)
