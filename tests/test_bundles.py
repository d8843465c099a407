import copy
import unittest

from meanbits.bundles import levels, spread
from meanbits.errors import UnlikeRows
from meanbits.rows import is_row
from tests.helper import mixed_row, numbers, stretches

WAVES = [(1, []), (6, []), (1, [0, 1, 1, 0]), (3, [1] * 12), (5, [0, 5] * 10), (5, [5, 5, 5]), (5, [0, 0, 0]),
         (7, numbers(1, 60, 7)), (10 ** 6, numbers(2, 60, 10 ** 6))]


def by_sums(wave, many, number):
    """Row of that number of a spread, by its sums rounded down."""
    below, tops = wave
    sums = [(below * number + many * sum(tops[:place])) // (below * many) for place in range(len(tops) + 1)]
    return "".join(str(after - ahead) for ahead, after in zip(sums, sums[1:]))


class Spread(unittest.TestCase):
    def test_examples(self):
        self.assertEqual(spread((2, [1, 1, 1, 1]), 1), ["0101"])
        self.assertEqual(spread((2, [1, 1, 1, 1]), 2), ["0101", "1010"])
        self.assertEqual(spread((3, [1, 1, 1]), 2), ["001", "010"])
        self.assertEqual(spread((3, [3, 0, 3]), 3), ["101"] * 3)

    def test_each_row(self):
        for wave in WAVES + [(10 ** 6, numbers(3, 400, 10 ** 6))]:
            for many in range(1, 9):
                told = spread(wave, many)
                self.assertIs(type(told), list)
                self.assertEqual(told, [by_sums(wave, many, number) for number in range(many)])
                self.assertTrue(all(is_row(row) for row in told))

    def test_no_tops_and_tops_at_the_ends(self):
        for many in range(1, 9):
            self.assertEqual(spread((4, []), many), [""] * many)
            self.assertEqual(spread((4, [0, 4, 4, 0]), many), ["0110"] * many)
            self.assertEqual(spread((1, [0] * 400), many), ["0" * 400] * many)
            self.assertEqual(spread((1, [1] * 400), many), ["1" * 400] * many)

    def test_first_levels_together(self):
        for wave in WAVES:
            below, tops = wave
            for many in range(1, 9):
                told = levels(spread(wave, many))
                for place in range(len(tops) + 1):
                    self.assertEqual(sum(told[:place]), many * sum(tops[:place]) // below)

    def test_the_bundle_is_off_by_less_than_one(self):
        for below, tops in WAVES:
            for many in range(1, 9):
                told = levels(spread((below, tops), many))
                for one, other in stretches(len(tops)):
                    off = below * sum(told[one:other]) - many * sum(tops[one:other])
                    self.assertLess(abs(off), below)

    def test_what_is_handed_in_and_told(self):
        wave = (5, [1, 2, 3, 4, 5, 0])
        before = copy.deepcopy(wave)
        told = spread(wave, 3)
        wanted = list(told)
        self.assertEqual(wave, before)
        told.clear()
        self.assertEqual(spread(wave, 3), wanted)
        self.assertIsNot(spread(wave, 3), spread(wave, 3))


class Levels(unittest.TestCase):
    def test_examples(self):
        self.assertEqual(levels(["0110"]), [0, 1, 1, 0])
        self.assertEqual(levels(["0110", "0011"]), [0, 1, 2, 1])
        self.assertEqual(levels(["1", "1", "1"]), [3])
        self.assertEqual(levels(["000", "000"]), [0, 0, 0])

    def test_rows_without_bits(self):
        self.assertEqual(levels([""]), [])
        self.assertEqual(levels(["", "", ""]), [])

    def test_many_long_rows(self):
        for many in range(1, 9):
            rows = [mixed_row(seed, 400) for seed in range(many)]
            told = levels(rows)
            self.assertEqual(told, ["".join(bits).count("1") for bits in zip(*rows)])
            self.assertEqual({type(level) for level in told}, {int})

    def test_unlike_rows(self):
        for rows in (["", "0"], ["0", ""], ["0", "01"], ["01", "01", "0"], ["0", "01", "01"], ["01", "0", "01"]):
            with self.assertRaises(UnlikeRows):
                levels(rows)

    def test_what_is_handed_in_and_told(self):
        rows = ["0110", "1111"]
        told = levels(rows)
        told.append(9)
        with self.assertRaises(UnlikeRows):
            levels(rows + ["0"])
        self.assertEqual(rows, ["0110", "1111"])
        self.assertEqual(levels(rows), [1, 2, 2, 1])
        self.assertIsNot(levels(rows), levels(rows))
