import math
import unittest

from meanbits.errors import NoStart
from meanbits.maker import errors, made
from meanbits.steady import bit_at, count, error_behind, one_at, steady
from tests.helper import all_shares, numbers, stretches

SHARES = all_shares(9)
GREAT = [(0, 1), (1, 1), (1, 2), (1, 10 ** 9), (10 ** 9 - 1, 10 ** 9), (333333333, 10 ** 9),
         (1, 10 ** 9 - 1), (618033988, 10 ** 9 - 1), (199, 200)]
FAR = [0, 1, 2, 399, 10 ** 9 - 1, 10 ** 9, 10 ** 9 + 1, 10 ** 18 - 1, 10 ** 18]
ALL = [steady, count, error_behind, bit_at, one_at]


def by_steps(share, start, many):
    """The bits and the errors of so many steps, by the words of the points."""
    top, below = share
    error, bits, behind = start, [], [start]
    for _ in range(many):
        error += top
        bits.append(1 if error >= below else 0)
        if error >= below:
            error -= below
        behind.append(error)
    return bits, behind


def far_starts(share):
    """Each end of the starts, and one between."""
    return sorted({0, share[1] // 2, share[1] - 1})


class BySteps(unittest.TestCase):
    def test_examples(self):
        self.assertEqual(steady((1, 3), 0, 7), "0010010")
        self.assertEqual(steady((1, 3), 2, 7), "1001001")
        self.assertEqual(steady((2, 5), 0, 6), "001010")
        self.assertEqual([count((2, 5), 0, many) for many in range(7)], [0, 0, 0, 1, 1, 2, 2])
        self.assertEqual([error_behind((2, 5), 0, many) for many in range(7)], [0, 2, 4, 1, 3, 0, 2])
        self.assertEqual([bit_at((2, 5), 0, place) for place in range(6)], [0, 0, 1, 0, 1, 0])
        self.assertEqual([one_at((2, 5), 0, number) for number in range(4)], [2, 4, 7, 9])

    def test_every_start_of_small_shares(self):
        for share in SHARES:
            for start in range(share[1]):
                bits, behind = by_steps(share, start, 40)
                places = [place for place, bit in enumerate(bits) if bit]
                for many in range(41):
                    self.assertEqual(steady(share, start, many), "".join(map(str, bits[:many])))
                    self.assertEqual(count(share, start, many), sum(bits[:many]))
                    self.assertEqual(error_behind(share, start, many), behind[many])
                self.assertEqual([bit_at(share, start, place) for place in range(40)], bits)
                self.assertEqual([one_at(share, start, number) for number in range(len(places))], places)

    def test_kinds(self):
        for share in [(0, 1), (1, 1), (2, 7)]:
            told = [ask(share, 0, 5) for ask in ALL]
            self.assertEqual([type(one) for one in told[:4]], [str, int, int, int])
        self.assertIs(type(one_at((2, 7), 0, 5)), int)

    def test_shares_of_below_one(self):
        for many in (0, 1, 2, 400, 10 ** 5):
            self.assertEqual(steady((0, 1), 0, many), "0" * many)
            self.assertEqual(steady((1, 1), 0, many), "1" * many)
        for many in FAR:
            self.assertEqual((count((0, 1), 0, many), error_behind((0, 1), 0, many)), (0, 0))
            self.assertEqual((count((1, 1), 0, many), error_behind((1, 1), 0, many)), (many, 0))
            self.assertEqual((bit_at((0, 1), 0, many), bit_at((1, 1), 0, many)), (0, 1))
            self.assertIsNone(one_at((0, 1), 0, many))
            self.assertEqual(one_at((1, 1), 0, many), many)

    def test_as_the_wave_makes_it(self):
        for share in GREAT + [(70, 199), (3, 200), (1, 400), (1, 401), (5, 399)]:
            top, below = share
            for start in far_starts(share):
                for many in (0, 1, 2, 199, 200, 201, 400, 1000):
                    wave = (below, [top] * many)
                    self.assertEqual(steady(share, start, many), made(wave, start))
                    self.assertEqual(count(share, start, many), made(wave, start).count("1"))
                    self.assertEqual(error_behind(share, start, many), errors(wave, start)[-1])

    def test_a_long_row(self):
        bits, behind = by_steps((34, 89), 17, 20000)
        self.assertEqual(steady((34, 89), 17, 20000), "".join(map(str, bits)))

    def test_each_round_has_the_tops_ones(self):
        for share in SHARES + [(70, 199), (3, 200)]:
            top, below = share
            for start in far_starts(share):
                row = steady(share, start, 4 * below)
                for place in range(3 * below):
                    self.assertEqual(row[place], row[place + below])
                    self.assertEqual(row[place:place + below].count("1"), top)

    def test_every_stretch_is_off_by_less_than_one(self):
        for top, below in [(0, 1), (1, 1), (5, 8), (70, 199), (1, 10 ** 9)]:
            for start in far_starts((top, below)):
                row = steady((top, below), start, 60)
                for one, other in stretches(60):
                    self.assertLess(abs(below * row[one:other].count("1") - top * (other - one)), below)


class FarOn(unittest.TestCase):
    def shares_and_starts(self):
        shares = list(GREAT)
        for top, below in zip(numbers(1, 30, 10 ** 9), numbers(2, 30, 10 ** 9)):
            top, below = sorted([top, below + 1])
            shares.append((top // math.gcd(top, below), below // math.gcd(top, below)))
        for share in shares:
            for start in far_starts(share):
                yield share, start

    def test_ones_and_error_are_start_and_tops(self):
        for share, start in self.shares_and_starts():
            top, below = share
            for many in FAR + numbers(3, 10, 10 ** 9):
                error = error_behind(share, start, many)
                self.assertEqual(below * count(share, start, many) + error, start + top * many)
                self.assertTrue(0 <= error < below)

    def test_the_bit_is_one_more_one(self):
        for share, start in self.shares_and_starts():
            for place in FAR + numbers(4, 10, 10 ** 9):
                bit = bit_at(share, start, place)
                self.assertIn(bit, (0, 1))
                self.assertEqual(bit, count(share, start, place + 1) - count(share, start, place))

    def test_the_place_of_a_one(self):
        for share, start in self.shares_and_starts():
            if share == (0, 1):
                continue
            for number in FAR + numbers(5, 10, 10 ** 9):
                place = one_at(share, start, number)
                self.assertGreaterEqual(place, 0)
                self.assertEqual(bit_at(share, start, place), 1)
                self.assertEqual(count(share, start, place), number)


class Refused(unittest.TestCase):
    def test_no_start(self):
        for share in [(0, 1), (1, 1), (1, 2), (70, 199), (1, 10 ** 9)]:
            below = share[1]
            for start in (-1, -below, below, below + 1, 10 ** 30, -10 ** 30):
                for many in (0, 1, 400):
                    for ask in ALL:
                        with self.assertRaises(NoStart):
                            ask(share, start, many)

    def test_no_start_far_on(self):
        for ask in ALL[1:]:
            for start in (-1, 10 ** 9):
                with self.assertRaises(NoStart):
                    ask((1, 10 ** 9), start, 10 ** 18)

    def test_the_same_again_behind_refusals(self):
        told = [ask((3, 7), 4, 20) for ask in ALL]
        for ask in ALL:
            with self.assertRaises(NoStart):
                ask((3, 7), 7, 20)
        self.assertEqual([ask((3, 7), 4, 20) for ask in ALL], told)
