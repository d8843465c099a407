import copy
import itertools
import unittest

from meanbits.errors import TooShort, UnlikeRows
from meanbits.maker import made
from meanbits.stretches import excess, no_better, offs, worst
from tests.helper import all_rows, all_shares, mixed_row, numbers, stretches

LONG_ROWS = ["0" * 400, "1" * 400, "01" * 200, mixed_row(21, 400), mixed_row(22, 400)]
LONG_WAVES = [(1, [0] * 400), (1, [1] * 400), (7, numbers(1, 400, 7)), (10 ** 6, numbers(2, 400, 10 ** 6)),
              (2, [1] * 400), (200, [71] * 400)]


def small_cases():
    """Short rows with waves of as many tops."""
    for row in all_rows(4):
        for below in (1, 2, 3):
            for tops in itertools.product(range(below + 1), repeat=len(row)):
                yield row, (below, list(tops))
    for row in all_rows(9)[::3]:
        yield row, (5, numbers(len(row), len(row), 5))
        yield row, (10 ** 6, numbers(9, len(row), 10 ** 6))


def plain_excess(row, wave, one, other):
    below, tops = wave
    return sum(below * (row[place] == "1") - tops[place] for place in range(one, other))


def plain_worst(row, wave):
    """The worst stretches by going through all of them in order."""
    below, tops = wave
    most = least = None
    for one in range(len(row)):
        off = 0
        for other in range(one + 1, len(row) + 1):
            off += below * (row[other - 1] == "1") - tops[other - 1]
            if most is None or off > most[0]:
                most = (off, (one, other))
            if least is None or off < least[0]:
                least = (off, (one, other))
    return most + least


class Excess(unittest.TestCase):
    def test_examples(self):
        self.assertEqual(excess("0110", (3, [1, 1, 1, 1]), 0, 4), 2)
        self.assertEqual(excess("0110", (3, [1, 1, 1, 1]), 1, 3), 4)
        self.assertEqual(excess("0110", (3, [1, 1, 1, 1]), 3, 4), -1)
        self.assertEqual(offs("0110", (3, [1, 1, 1, 1])), [0, -1, 1, 3, 2])
        self.assertEqual(worst("0110", (3, [1, 1, 1, 1])), (4, (1, 3), -1, (0, 1)))

    def test_every_stretch(self):
        cases = list(small_cases()) + [(row[:40], (below, tops[:40])) for row in LONG_ROWS for below, tops in LONG_WAVES]
        for row, wave in cases:
            for one, other in stretches(len(row)):
                told = excess(row, wave, one, other)
                self.assertEqual(told, plain_excess(row, wave, one, other))
                self.assertIs(type(told), int)

    def test_some_stretches_of_long_rows(self):
        for row in LONG_ROWS:
            for wave in LONG_WAVES:
                for one, other in [(0, 400), (0, 1), (399, 400), (17, 311), (200, 201)]:
                    self.assertEqual(excess(row, wave, one, other), plain_excess(row, wave, one, other))


class Offs(unittest.TestCase):
    def test_no_bits(self):
        self.assertEqual(offs("", (1, [])), [0])
        self.assertEqual(offs("", (10 ** 6, [])), [0])

    def test_each_beginning(self):
        cases = list(small_cases()) + [(row, wave) for row in LONG_ROWS for wave in LONG_WAVES]
        for row, wave in cases:
            told = offs(row, wave)
            self.assertIs(type(told), list)
            self.assertEqual(told[0], 0)
            self.assertEqual(len(told), len(row) + 1)
            for place in range(0, len(row) + 1, 1 + len(row) // 20):
                self.assertEqual(told[place], plain_excess(row, wave, 0, place))


class Worst(unittest.TestCase):
    def test_one_bit(self):
        for below in (1, 2, 7):
            for top in range(below + 1):
                for bit in "01":
                    off = below * int(bit) - top
                    self.assertEqual(worst(bit, (below, [top])), (off, (0, 1), off, (0, 1)))

    def test_by_going_through_all_stretches(self):
        for row, wave in small_cases():
            if row:
                self.assertEqual(worst(row, wave), plain_worst(row, wave), (row, wave))

    def test_long_rows(self):
        for row in LONG_ROWS:
            for wave in LONG_WAVES:
                told = worst(row, wave)
                self.assertEqual(told, plain_worst(row, wave))
                self.assertEqual([type(part) for part in (told, *told)], [tuple, int, tuple, int, tuple])

    def test_the_first_of_several(self):
        self.assertEqual(worst("0101", (1, [0] * 4)), (2, (0, 4), 0, (0, 1)))
        self.assertEqual(worst("0000", (1, [0] * 4)), (0, (0, 1), 0, (0, 1)))
        self.assertEqual(worst("1010", (2, [1] * 4)), (1, (0, 1), -1, (1, 2)))
        self.assertEqual(worst("0110", (1, [1] * 4)), (0, (1, 2), -2, (0, 4)))

    def test_made_rows_keep_within_below(self):
        waves = [wave for row, wave in small_cases() if row] + LONG_WAVES
        for wave in waves:
            below = wave[0]
            for start in {0, below // 2, below - 1}:
                most, stretch, least, other = worst(made(wave, start), wave)
                self.assertLessEqual(most, below - 1)
                self.assertGreaterEqual(least, 1 - below)

    def test_rows_longer_than_are_handed_in_first(self):
        row = mixed_row(5, 1200)
        wave = (7, numbers(5, 1200, 7))
        self.assertEqual(worst(row, wave), plain_worst(row, wave))


class Refused(unittest.TestCase):
    def test_unlike_rows(self):
        for row, tops in [("", [0]), ("0", []), ("01", [0]), ("01", [0, 1, 1]), ("1" * 400, [1] * 399), ("", [1] * 400)]:
            with self.assertRaises(UnlikeRows):
                excess(row, (1, tops), 0, 1)
            with self.assertRaises(UnlikeRows):
                offs(row, (1, tops))
            with self.assertRaises(UnlikeRows):
                worst(row, (1, tops))

    def test_an_empty_row(self):
        for below in (1, 5):
            with self.assertRaises(TooShort):
                worst("", (below, []))

    def test_what_is_handed_in_and_told(self):
        wave = (3, [1, 0, 3, 2])
        before = copy.deepcopy(wave)
        told = offs("0110", wave)
        wanted = list(told)
        found = worst("0110", wave), excess("0110", wave, 1, 3)
        told.clear()
        for ask in (offs, worst):
            with self.assertRaises(UnlikeRows):
                ask("011", wave)
        self.assertEqual(wave, before)
        self.assertEqual(offs("0110", wave), wanted)
        self.assertEqual((worst("0110", wave), excess("0110", wave, 1, 3)), found)
        self.assertIsNot(offs("0110", wave), offs("0110", wave))
        wave[1][0] = 3
        self.assertEqual(offs("0110", wave), [0, -3, 0, 0, -2])


class NoBetter(unittest.TestCase):
    def plain(self, row, share):
        """The first such stretch by going through all in order."""
        top, below = share
        for one, other in stretches(len(row)):
            off = below * row[one:other].count("1") - top * (other - one)
            if off >= below - 1 or off <= 1 - below:
                return (one, other)
        self.fail((row, share))

    def test_examples(self):
        self.assertEqual(no_better("01", (1, 2)), (0, 1))
        self.assertEqual(no_better("001", (1, 3)), (0, 2))
        self.assertEqual(no_better("010", (1, 3)), (1, 2))
        self.assertEqual(no_better("00101", (2, 5)), (0, 2))

    def test_below_one(self):
        for row in all_rows(6) + LONG_ROWS:
            if row:
                self.assertEqual(no_better(row, (0, 1)), (0, 1))
                self.assertEqual(no_better(row, (1, 1)), (0, 1))

    def test_by_going_through_all_stretches(self):
        for share in all_shares(7):
            for row in all_rows(8):
                if len(row) >= share[1]:
                    self.assertEqual(no_better(row, share), self.plain(row, share), (row, share))

    def test_rows_of_just_below_many_bits(self):
        for share in [(1, 2), (70, 199), (199, 200), (1, 200), (37, 100), (55, 89)]:
            below = share[1]
            rows = ["0" * below, "1" * below, mixed_row(6, below), ("01" * below)[:below]]
            rows += [made((below, [share[0]] * below), start) for start in (0, below // 2, below - 1)]
            for row in rows:
                told = no_better(row, share)
                self.assertEqual(told, self.plain(row, share))
                self.assertEqual([type(part) for part in (told, *told)], [tuple, int, int])
                with self.assertRaises(TooShort):
                    no_better(row[1:], share)

    def test_longer_rows(self):
        for share in [(1, 2), (70, 199), (199, 200), (37, 100)]:
            top, below = share
            for row in LONG_ROWS + [made((below, [top] * 400), start) for start in (0, below - 1)]:
                self.assertEqual(no_better(row, share), self.plain(row, share))

    def test_too_short(self):
        for share in all_shares(8):
            for many in range(share[1]):
                for sign in "01":
                    with self.assertRaises(TooShort):
                        no_better(sign * many, share)
            self.assertEqual(len(no_better("1" * share[1], share)), 2)
