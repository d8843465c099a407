import copy
import itertools
import unittest

from meanbits.parting import numbers_of, pieces, shows_pieces
from meanbits.reading import read
from meanbits.spans import span_of
from meanbits.steady import steady
from tests.helper import ODD_THINGS, all_rows, altered, mixed_row

TWO = steady((2, 5), 0, 200) + steady((3, 7), 1, 200)
THREE = steady((70, 199), 3, 133) + steady((1, 9), 0, 133) + steady((8, 9), 4, 134)
LONG = ["0" * 400, "1" * 400, steady((123, 200), 7, 400), TWO, THREE, mixed_row(1, 400), "0" * 200 + "1" * 200,
        "0011" * 100, steady((1, 200), 0, 399) + "1", "1" + steady((89, 144), 9, 399)]


def evens():
    """All rows of at most nine bits with a span: no two stretches of as many bits differ by two ones."""
    told = {}
    for row in all_rows(9):
        sums = [row[:place].count("1") for place in range(len(row) + 1)]
        told[row] = all(max(counts) - min(counts) < 2 for counts in (
            [sums[one + many] - sums[one] for one in range(len(row) - many + 1)] for many in range(1, len(row) + 1)))
    return told


EVEN = evens()


def plain_pieces(row):
    """Bit by bit, as long as there is a span, of rows of at most nine bits."""
    told = []
    one = 0
    while one < len(row):
        other = one + 1
        while other < len(row) and EVEN[row[one:other + 1]]:
            other += 1
        told.append((one, other))
        one = other
    return told


def plainly_shows(row, thing):
    """Whether a thing shows it, point by point."""
    if type(thing) is not list:
        return False
    for one in thing:
        if type(one) is not tuple or [type(place) for place in one] != [int, int]:
            return False
    ends = [0] + [other for one, other in thing]
    if ends[-1] != len(row) or ends[:-1] != [one for one, other in thing]:
        return False
    for one, other in thing:
        if one >= other or span_of(row[one:other]) is None:
            return False
        if other < len(row) and span_of(row[one:other + 1]) is not None:
            return False
    return True


class Pieces(unittest.TestCase):
    def assert_pieces(self, row):
        told = pieces(row)
        self.assertTrue(plainly_shows(row, told), (row, told))
        return told

    def test_examples(self):
        self.assertEqual(pieces(""), [])
        self.assertEqual(pieces("0"), [(0, 1)])
        self.assertEqual(pieces("1"), [(0, 1)])
        self.assertEqual(pieces("0011"), [(0, 3), (3, 4)])
        self.assertEqual(pieces("00110011"), [(0, 3), (3, 7), (7, 8)])
        self.assertEqual(pieces("000111"), [(0, 4), (4, 6)])

    def test_all_short_rows(self):
        for row in all_rows(9):
            self.assertEqual(self.assert_pieces(row), plain_pieces(row), row)

    def test_steady_rows_are_one_piece(self):
        for share, start in [((0, 1), 0), ((1, 1), 0), ((1, 2), 1), ((70, 199), 5), ((1, 200), 0), ((199, 200), 199)]:
            for many in (1, 2, 3, 4, 5, 7, 8, 9, 127, 128, 129, 399, 400, 1000):
                self.assertEqual(pieces(steady(share, start, many)), [(0, many)])

    def test_long_rows(self):
        for row in LONG:
            self.assert_pieces(row)
        self.assertEqual(len(pieces(TWO)), 2)
        self.assertEqual(len(pieces(THREE)), 3)

    def test_pieces_of_each_length(self):
        # The second row cannot go on behind the first one, which ends the first piece at each length.
        for many in range(3, 70):
            told = self.assert_pieces("0" * many + "11" + "0" * 9)
            self.assertEqual(told[0], (0, many + 1))

    def test_no_parting_has_fewer(self):
        for row in all_rows(7)[1:]:
            fewest = min(len(cuts) + 1 for many in range(len(row)) for cuts in
                         itertools.combinations(range(1, len(row)), many)
                         if all(EVEN[row[one:other]] for one, other in zip((0, *cuts), (*cuts, len(row)))))
            self.assertEqual(len(pieces(row)), fewest)

    def test_told_lists_are_the_askers_own(self):
        for row in ["", "0011", TWO]:
            told = pieces(row)
            wanted = list(told)
            told.append((9, 10))
            self.assertEqual(pieces(row), wanted)
            self.assertIsNot(pieces(row), pieces(row))


class NumbersOf(unittest.TestCase):
    def test_examples(self):
        self.assertEqual(numbers_of(""), [])
        self.assertEqual(numbers_of("0"), [(0, 1)])
        self.assertEqual(numbers_of("0011"), [(1, 3), (1, 1)])
        self.assertEqual(numbers_of(steady((70, 199), 0, 400)), [(70, 199)])

    def test_read_of_each_piece(self):
        for row in all_rows(8) + LONG:
            told = numbers_of(row)
            self.assertEqual(told, [read(row[one:other]) for one, other in pieces(row)])
            self.assertIs(type(told), list)
            self.assertNotIn(None, told)

    def test_told_lists_are_the_askers_own(self):
        told = numbers_of("0011")
        told.clear()
        self.assertEqual(numbers_of("0011"), [(1, 3), (1, 1)])
        self.assertIsNot(numbers_of("0011"), numbers_of("0011"))


class ShowsPieces(unittest.TestCase):
    def assert_shows(self, row, thing, wanted):
        before = copy.deepcopy(thing)
        self.assertIs(shows_pieces(row, thing), wanted, (row, thing))
        self.assertEqual(thing, before)

    def test_what_pieces_tells(self):
        for row in all_rows(8) + LONG:
            self.assert_shows(row, pieces(row), True)

    def test_all_partings_of_short_rows(self):
        for row in all_rows(7)[1:]:
            for many in range(len(row)):
                for cuts in itertools.combinations(range(1, len(row)), many):
                    thing = list(zip((0, *cuts), (*cuts, len(row))))
                    self.assert_shows(row, thing, plainly_shows(row, thing))

    def test_altered_at_one_place(self):
        for row in ["", "0", "1", "0011", "00110011", "000111000", "110100110", TWO, THREE]:
            for other in altered(pieces(row)):
                self.assert_shows(row, other, plainly_shows(row, other))

    def test_one_part_otherwise(self):
        row, told = "00110011", [(0, 3), (3, 7), (7, 8)]
        self.assert_shows(row, told, True)
        for thing in [told[1:], told[:-1], told[:1] + told[2:], [told[0]] + told, told + [told[2]], told + [(8, 9)],
                      told + [(8, 8)], [(0, 0)] + told, [(0, 1), (1, 3), (3, 7), (7, 8)], [(0, 3), (3, 8)],
                      [(0, 7), (7, 8)], [(0, 8)], [(0, 3), (3, 6), (6, 8)], [(0, 2), (2, 7), (7, 8)],
                      [(0, 4), (4, 7), (7, 8)], [(0, 3), (3, 5), (5, 8)], [(0, 3), (3, 7), (7, 9)],
                      [(0, 3), (3, 7), (7, 7)], [(0, 3), (2, 7), (7, 8)], [(0, 3), (4, 7), (7, 8)],
                      [(-8, 3), (3, 7), (7, 8)], [(1, 3), (3, 7), (7, 8)], [(0, 3), (3, 7), (7, None)],
                      [(0, 3), (3, 7), (7, "8")], [(False, 3), (3, 7), (7, 8)], [[0, 3], (3, 7), (7, 8)],
                      [(0, 3), (3, 7), [7, 8]], [(0, 3), (3, 7), (7, 8, 8)], [(0, 3), (3, 7), (7,)],
                      [(0, 3), None, (7, 8)], [(0, 3), [(3, 7)], (7, 8)], told[::-1], [told], (told,), tuple(told),
                      "[(0, 3), (3, 7), (7, 8)]", None, True, 3]:
            self.assert_shows(row, thing, False)

    def test_truths_in_the_place_of_numbers(self):
        self.assert_shows("0", [(0, 1)], True)
        for thing in [[(0, True)], [(False, 1)], [(False, True)]]:
            self.assert_shows("0", thing, False)

    def test_an_empty_row(self):
        self.assert_shows("", [], True)
        for thing in [(), "", None, False, 0, [(0, 0)], [(0, 1)], [()], [[]], ([],), {}.get("")]:
            self.assert_shows("", thing, False)

    def test_other_things(self):
        for row in ["0", "0011", TWO]:
            for thing in ODD_THINGS:
                self.assert_shows(row, thing, False)
        for thing in ODD_THINGS:
            self.assert_shows("", thing, thing == [])
