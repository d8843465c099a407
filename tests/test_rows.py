import itertools
import unittest

from meanbits.errors import NoPlace, TooShort
from meanbits.rows import flipped, is_row, mean_of, ones, ones_in, runs, turned
from tests.helper import ODD_THINGS, all_rows, mixed_row

LONG = ["0" * 400, "1" * 400, "01" * 200, mixed_row(3, 400)]
ROWS = all_rows(7) + LONG


class IsRow(unittest.TestCase):
    def test_rows(self):
        for row in ROWS:
            self.assertIs(is_row(row), True)

    def test_another_sign_at_the_first_place_and_the_last(self):
        for row in ["", "0", "1", "0110", LONG[3]]:
            for sign in "2-aO \n\u0661\u00b9":
                self.assertIs(is_row(sign + row), False)
                self.assertIs(is_row(row + sign), False)
                self.assertIs(is_row(row + sign + row), False)

    def test_other_things(self):
        for thing in ODD_THINGS:
            wanted = isinstance(thing, str) and set(thing) <= {"0", "1"}
            self.assertIs(is_row(thing), wanted)
        for thing in [101, True, None, ["0", "1"], ("0",), [0, 1], []]:
            self.assertIs(is_row(thing), False)


class Counting(unittest.TestCase):
    def test_ones(self):
        for row in ROWS:
            self.assertEqual(ones(row), sum(bit == "1" for bit in row))
        self.assertEqual([ones(row) for row in ["", "000", "111", "0110"]], [0, 0, 3, 2])

    def test_ones_in(self):
        for row in all_rows(6) + [LONG[3][:60]]:
            for one in range(len(row) + 1):
                for other in range(one, len(row) + 1):
                    wanted = sum(row[place] == "1" for place in range(one, other))
                    self.assertEqual(ones_in(row, one, other), wanted)

    def test_ones_in_of_long_rows(self):
        for row in LONG:
            self.assertEqual(ones_in(row, 0, 400), ones(row))
            self.assertEqual(ones_in(row, 399, 400), int(row[399]))
            self.assertEqual(ones_in(row, 400, 400), 0)
            self.assertEqual(ones_in(row, 0, 0), 0)

    def test_mean_of(self):
        self.assertEqual(mean_of("0"), (0, 1))
        self.assertEqual(mean_of("1"), (1, 1))
        self.assertEqual(mean_of("0101"), (1, 2))
        self.assertEqual(mean_of("011"), (2, 3))
        self.assertEqual(mean_of("1" * 400), (1, 1))
        for row in ROWS:
            if row:
                top, below = mean_of(row)
                self.assertEqual(top * len(row), below * ones(row))
                self.assertLessEqual(below, len(row))
                self.assertIs(type(mean_of(row)), tuple)

    def test_mean_of_an_empty_row(self):
        with self.assertRaises(TooShort):
            mean_of("")


class Changing(unittest.TestCase):
    def test_flipped(self):
        self.assertEqual(flipped(""), "")
        self.assertEqual(flipped("0010"), "1101")
        for row in ROWS:
            self.assertEqual(len(flipped(row)), len(row))
            self.assertTrue(all(one != other for one, other in zip(row, flipped(row))))
            self.assertIs(is_row(flipped(row)), True)
            self.assertEqual(flipped(flipped(row)), row)

    def test_turned_at_all_places_in_any_order(self):
        for row in all_rows(4):
            for many in range(len(row) + 1):
                for places in itertools.permutations(range(len(row)), many):
                    told = turned(row, list(places))
                    wanted = ["10"[int(bit)] if place in places else bit for place, bit in enumerate(row)]
                    self.assertEqual(told, "".join(wanted))

    def test_turned_of_long_rows(self):
        for row in LONG:
            self.assertEqual(turned(row, []), row)
            self.assertEqual(turned(row, [0]), flipped(row[0]) + row[1:])
            self.assertEqual(turned(row, [399]), row[:399] + flipped(row[399]))
            self.assertEqual(turned(row, list(range(399, -1, -1))), flipped(row))

    def test_turned_where_there_is_no_place(self):
        for row in ["", "0", "01", "1111", LONG[3]]:
            bits = len(row)
            for place in [bits, bits + 1, 10 ** 30, -1, -bits - 1, -10 ** 30]:
                for places in [[place], [place] + list(range(bits)), list(range(bits)) + [place]]:
                    before = list(places)
                    with self.assertRaises(NoPlace):
                        turned(row, places)
                    self.assertEqual(places, before)

    def test_places_are_left_as_they_are(self):
        places = [2, 0]
        self.assertEqual(turned("0000", places), "1010")
        self.assertEqual(places, [2, 0])
        self.assertEqual(turned("0000", places), "1010")


class Runs(unittest.TestCase):
    def test_examples(self):
        self.assertEqual(runs(""), [])
        self.assertEqual(runs("0"), [(0, 1)])
        self.assertEqual(runs("11"), [(1, 2)])
        self.assertEqual(runs("00110"), [(0, 2), (1, 2), (0, 1)])
        self.assertEqual(runs("0" * 400), [(0, 400)])
        self.assertEqual(runs("1" * 400), [(1, 400)])
        self.assertEqual(runs("01" * 200), [(0, 1), (1, 1)] * 200)

    def test_all(self):
        for row in ROWS:
            told = runs(row)
            self.assertIs(type(told), list)
            self.assertEqual(told, [(int(bit), len(list(alike))) for bit, alike in itertools.groupby(row)])
            for pair in told:
                self.assertEqual((type(pair), type(pair[0]), type(pair[1])), (tuple, int, int))

    def test_the_told_list_is_the_askers_own(self):
        told = runs("0011")
        told.append((0, 9))
        told[0] = None
        self.assertEqual(runs("0011"), [(0, 2), (1, 2)])
        self.assertIsNot(runs("0011"), runs("0011"))
