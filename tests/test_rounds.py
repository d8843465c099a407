import itertools
import math
import unittest

from meanbits.errors import NoStart, TooShort
from meanbits.maker import made
from meanbits.rounds import period, round_of, rounds, starts_of, whole_rounds
from meanbits.steady import steady
from tests.helper import all_rows, all_shares, mixed_row

SHARES = all_shares(9)
LARGE = [(70, 199), (1, 200), (199, 200), (123, 200), (89, 144)]


def plain_row(share, start, many):
    return made((share[1], [share[0]] * many), start)


def plain_whole(row):
    """The share and start of which the row is rounds, by trying all."""
    for below in range(1, len(row) + 1):
        for top in range(below + 1):
            if len(row) % below == 0 and math.gcd(top, below) == 1:
                for start in range(below):
                    if plain_row((top, below), start, below) * (len(row) // below) == row:
                        return ((top, below), start)
    return None


class Round(unittest.TestCase):
    def test_examples(self):
        self.assertEqual(round_of((0, 1), 0), "0")
        self.assertEqual(round_of((1, 1), 0), "1")
        self.assertEqual(round_of((2, 5), 0), "00101")
        self.assertEqual(round_of((2, 5), 4), "10100")
        self.assertEqual(rounds((2, 5)), ["00101", "01001", "01010", "10010", "10100"])
        self.assertEqual(rounds((0, 1)), ["0"])
        self.assertEqual(rounds((1, 1)), ["1"])

    def test_every_start(self):
        for share in SHARES + LARGE:
            for start in range(share[1]):
                told = round_of(share, start)
                self.assertEqual(told, plain_row(share, start, share[1]))
                self.assertEqual(told.count("1"), share[0])

    def test_no_start(self):
        for share in [(0, 1), (1, 1), (2, 5), (70, 199)]:
            for start in (-1, -share[1], share[1], share[1] + 1, 10 ** 30):
                with self.assertRaises(NoStart):
                    round_of(share, start)

    def test_rounds_rise_and_are_unlike(self):
        for share in SHARES + LARGE:
            told = rounds(share)
            self.assertIs(type(told), list)
            self.assertEqual(len(set(told)), share[1])
            self.assertEqual(told, sorted({plain_row(share, start, share[1]) for start in range(share[1])}))

    def test_told_lists_are_the_askers_own(self):
        for ask in (lambda: rounds((2, 5)), lambda: starts_of("0010", (2, 5)), lambda: starts_of("11", (2, 5))):
            told = ask()
            wanted = list(told)
            told.append("x")
            with self.assertRaises(NoStart):
                round_of((2, 5), 5)
            self.assertEqual(ask(), wanted)
            self.assertIsNot(ask(), ask())


class StartsOf(unittest.TestCase):
    def test_examples(self):
        self.assertEqual(starts_of("0", (2, 5)), [0, 1, 2])
        self.assertEqual(starts_of("1", (2, 5)), [3, 4])
        self.assertEqual(starts_of("0010", (2, 5)), [0])
        self.assertEqual(starts_of("11", (2, 5)), [])

    def test_an_empty_row(self):
        for share in SHARES + LARGE:
            self.assertEqual(starts_of("", share), list(range(share[1])))

    def test_every_short_row(self):
        for share in SHARES:
            for row in all_rows(6):
                wanted = [start for start in range(share[1]) if plain_row(share, start, len(row)) == row]
                told = starts_of(row, share)
                self.assertEqual(told, wanted, (row, share))
                self.assertIs(type(told), list)

    def test_made_rows(self):
        for share in LARGE:
            for start in (0, 1, share[1] // 2, share[1] - 1):
                for many in (1, 10, 60, share[1] - 1, share[1], 400):
                    row = steady(share, start, many)
                    wanted = [some for some in range(share[1]) if steady(share, some, many) == row]
                    told = starts_of(row, share)
                    self.assertEqual(told, wanted)
                    self.assertIn(start, told)
                self.assertEqual(starts_of(steady(share, start, 400), share), [start])

    def test_rows_that_no_start_makes(self):
        for share in LARGE:
            for row in ("0" * 400, "1" * 400, "0110" * 100, mixed_row(3, 400)):
                self.assertEqual(starts_of(row, share), [])
        self.assertEqual(starts_of("0" * 400, (0, 1)), [0])
        self.assertEqual(starts_of("0" * 400, (1, 1)), [])
        self.assertEqual(starts_of("1" * 400, (1, 1)), [0])


class WholeRounds(unittest.TestCase):
    def test_examples(self):
        self.assertEqual(whole_rounds("0"), ((0, 1), 0))
        self.assertEqual(whole_rounds("1"), ((1, 1), 0))
        self.assertEqual(whole_rounds("0101"), ((1, 2), 0))
        self.assertEqual(whole_rounds("1010"), ((1, 2), 1))
        self.assertIsNone(whole_rounds("0110"))
        self.assertIsNone(whole_rounds("0011"))

    def test_one_round_and_several(self):
        for share in SHARES + LARGE:
            for start in range(share[1]):
                for many in (1, 2, 3):
                    self.assertEqual(whole_rounds(plain_row(share, start, share[1]) * many), (share, start))

    def test_every_short_row(self):
        wanted = {}
        for share in all_shares(11):
            for start in range(share[1]):
                for many in range(1, 11 // share[1] + 1):
                    wanted[plain_row(share, start, share[1]) * many] = (share, start)
        for row in all_rows(11):
            if row:
                self.assertEqual(whole_rounds(row), wanted.get(row), row)

    def test_rows_that_are_none(self):
        for share in LARGE:
            # Both have the mean of the share, but behind a round the start is the same again.
            self.assertIsNone(whole_rounds(round_of(share, 3) + round_of(share, 4)))
            self.assertIsNone(whole_rounds(round_of(share, 4) + round_of(share, 3)))
        self.assertIsNone(whole_rounds("0" * 200 + "1" * 200))
        self.assertIsNone(whole_rounds(mixed_row(1, 400)))

    def test_made_rows_that_are_no_whole_rounds(self):
        # The first bits of rounds: whole rounds of another share, or none.
        found = 0
        for share in SHARES:
            for many in range(1, 3 * share[1]):
                row = plain_row(share, 0, many)
                wanted = plain_whole(row)
                self.assertEqual(whole_rounds(row), wanted, row)
                found += wanted is None
        self.assertGreater(found, 0)

    def test_rows_of_one_sign(self):
        for many in (1, 2, 7, 400):
            self.assertEqual(whole_rounds("0" * many), ((0, 1), 0))
            self.assertEqual(whole_rounds("1" * many), ((1, 1), 0))

    def test_too_short(self):
        for ask in (whole_rounds, period):
            with self.assertRaises(TooShort):
                ask("")
            self.assertIsNotNone(ask("0"))


class Period(unittest.TestCase):
    def test_examples(self):
        self.assertEqual(period("0"), 1)
        self.assertEqual(period("01"), 2)
        self.assertEqual(period("010"), 2)
        self.assertEqual(period("0110"), 3)
        self.assertEqual(period("0010010"), 3)

    def test_rows_of_one_sign(self):
        for many in (1, 2, 7, 400):
            self.assertEqual((period("0" * many), period("1" * many)), (1, 1))

    def test_rows_that_only_all_bits_go_round_with(self):
        for many in range(2, 12):
            self.assertEqual(period("0" * (many - 1) + "1"), many)
            self.assertEqual(period("1" + "0" * (many - 1)), many)
        self.assertEqual(period("0" * 399 + "1"), 400)
        self.assertEqual(period("0" + "1" * 399), 400)

    def test_every_short_row(self):
        for row in all_rows(10) + [mixed_row(seed, 400) for seed in range(3)]:
            if row:
                fits = [many for many in range(1, len(row) + 1)
                        if all(row[place] == row[place + many] for place in range(len(row) - many))]
                self.assertEqual(period(row), fits[0])

    def test_fractions_go_round_with_their_belows(self):
        for share, many in itertools.product(SHARES + LARGE, (2, 3)):
            for start in {0, share[1] // 2, share[1] - 1}:
                self.assertEqual(period(steady(share, start, many * share[1])), share[1])
