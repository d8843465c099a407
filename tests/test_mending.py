import itertools
import unittest

from meanbits.errors import TooShort
from meanbits.mending import mended
from meanbits.steady import steady
from tests.helper import all_shares, mixed_row, numbers


def turn(row, place):
    return row[:place] + "10"[int(row[place])] + row[place + 1:]


def made_rows(most, many):
    """The shares to most that make each row of so many bits."""
    told = {}
    for share in all_shares(most):
        for start in range(share[1]):
            told.setdefault(steady(share, start, many), set()).add(share)
    return told


def plain_mended(row, making):
    """By going through all places and shares; making are the made rows of as many bits."""
    right = [("right", share) for share in making.get(row, ())]
    turned = [("turned", place, share) for place in range(len(row)) for share in making.get(turn(row, place), ())]
    found = right or turned or [("none",)]
    # There never are two such places or shares.
    assert len(found) == 1, (row, found)
    return found[0]


class Mended(unittest.TestCase):
    def assert_mended(self, row, most, wanted):
        told = mended(row, most)
        self.assertEqual(told, wanted, (row, most))
        self.assertEqual([type(one) for one in told], [type(one) for one in wanted])
        self.assertIs(type(told), tuple)

    def test_examples(self):
        self.assert_mended("000", 1, ("right", (0, 1)))
        self.assert_mended("110", 1, ("turned", 2, (1, 1)))
        self.assert_mended("0011", 1, ("none",))
        self.assert_mended("01010101", 2, ("right", (1, 2)))
        self.assert_mended("01110101", 2, ("turned", 2, (1, 2)))
        self.assert_mended("00000000", 2, ("right", (0, 1)))
        self.assert_mended("00110011", 2, ("none",))

    def test_made_rows_as_they_are_and_with_each_bit_turned(self):
        for most in range(1, 9):
            least = max(3, 6 * most - 4)
            for many in (least, least + 1, least + 7):
                # Of the long rows some, of the short ones all.
                for share in all_shares(most)[::1 if most < 5 else 4]:
                    for start in range(0, share[1], 1 if most < 5 else 3):
                        row = steady(share, start, many)
                        self.assert_mended(row, most, ("right", share))
                        for place in range(many) if many == least else (0, 1, many // 2, many - 1):
                            self.assert_mended(turn(row, place), most, ("turned", place, share))

    def test_rows_of_eighty_bits(self):
        for most in (1, 3, 5, 7, 8):
            for share in [(0, 1), (1, 1), (1, most), (most - 1, most), (most // 2, 2 * (most // 2) + 1)]:
                if share in all_shares(most):
                    row = steady(share, share[1] - 1, 80)
                    self.assert_mended(row, most, ("right", share))
                    for place in (0, 1, 40, 78, 79):
                        self.assert_mended(turn(row, place), most, ("turned", place, share))

    def test_all_short_rows(self):
        for most, sizes in ((1, range(3, 9)), (2, range(8, 12))):
            for many in sizes:
                making = made_rows(most, many)
                for row in map("".join, itertools.product("01", repeat=many)):
                    self.assert_mended(row, most, plain_mended(row, making))

    def test_more_bits_turned_and_any_rows(self):
        for most in range(1, 9):
            kinds = set()
            for many in {max(3, 6 * most - 4), 6 * most, 80}:
                making = made_rows(most, many)
                rows = [mixed_row(seed, many) for seed in range(3)]
                for share in all_shares(most)[::5]:
                    for seed, turns in ((1, 2), (2, 3), (3, 9)):
                        row = steady(share, share[1] // 2, many)
                        for place in numbers(seed + many, turns, many - 1):
                            row = turn(row, place)
                        rows.append(row)
                for row in rows:
                    wanted = plain_mended(row, making)
                    kinds.add(wanted[0])
                    self.assert_mended(row, most, wanted)
            self.assertIn("none", kinds)

    def test_no_two_made_rows_are_two_turns_apart(self):
        # So a row with one bit turned has one place and one share, and is not made itself.
        for most in range(1, 9):
            for many in (max(3, 6 * most - 4), 6 * most):
                seen = set()
                for row in made_rows(most, many):
                    for near in [row] + [turn(row, place) for place in range(many)]:
                        self.assertNotIn(near, seen)
                        seen.add(near)

    def test_shares_beyond_most(self):
        row = steady((3, 8), 0, 80)
        self.assert_mended(row, 8, ("right", (3, 8)))
        self.assert_mended(row, 7, ("none",))

    def test_too_short(self):
        for most in range(1, 9):
            least = max(3, 6 * most - 4)
            for many in {0, 1, 2, least - 2, least - 1} - {least}:
                for row in ("0" * many, steady((1, most), 0, many), mixed_row(4, many)):
                    with self.assertRaises(TooShort):
                        mended(row, most)

    def test_the_same_again_behind_refusals(self):
        told = mended("01110101", 2)
        with self.assertRaises(TooShort):
            mended("0111010", 2)
        self.assertEqual(mended("01110101", 2), told)
