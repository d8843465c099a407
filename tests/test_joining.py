import unittest

from meanbits.errors import NoShare
from meanbits.joining import gap, goes_on, sewn
from meanbits.maker import made
from tests.helper import all_rows, all_shares, mixed_row

SHARES = all_shares(6)
LARGE = [(70, 199), (1, 200), (199, 200), (123, 200), (89, 144)]


def plain_row(share, start, many):
    return made((share[1], [share[0]] * many), start)


def plain_starts(row, share):
    """All starts that make the row, by trying each."""
    return [start for start in range(share[1]) if plain_row(share, start, len(row)) == row]


class GoesOn(unittest.TestCase):
    def test_examples(self):
        self.assertIs(goes_on("001", "01", (2, 5)), True)
        self.assertIs(goes_on("001", "00", (2, 5)), False)
        self.assertIs(goes_on("", "", (2, 5)), True)
        self.assertIs(goes_on("11", "", (2, 5)), False)
        self.assertIs(goes_on("", "11", (2, 5)), False)

    def test_all_short_rows(self):
        for share in SHARES:
            for row in all_rows(4):
                for other in all_rows(4):
                    self.assertIs(goes_on(row, other, share), plain_starts(row + other, share) != [])

    def test_rows_cut_anywhere(self):
        for share in LARGE:
            for start in (0, share[1] // 2, share[1] - 1):
                row = plain_row(share, start, 400)
                for cut in range(0, 401, 7):
                    self.assertIs(goes_on(row[:cut], row[cut:], share), True)
                self.assertIs(goes_on(row, "", share), True)
                self.assertIs(goes_on("", row, share), True)

    def test_rows_that_do_not_go_on(self):
        for share in LARGE:
            row = plain_row(share, 0, 400)
            for cut in (1, 100, 399):
                other = row[cut:]
                for place in (0, len(other) // 2, len(other) - 1):
                    turned = other[:place] + "10"[int(other[place])] + other[place + 1:]
                    wanted = plain_starts(row[:cut] + turned, share) != []
                    self.assertIs(goes_on(row[:cut], turned, share), wanted)
            # Each is made by some start, but not by one start both.
            self.assertIs(goes_on(row[:250], row[1:251], share), False)
            self.assertIs(goes_on("01" * 30, "10" * 30, share), False)

    def test_each_alone_is_not_enough(self):
        self.assertNotEqual(plain_starts("10", (1, 2)), [])
        self.assertNotEqual(plain_starts("01", (1, 2)), [])
        self.assertIs(goes_on("10", "01", (1, 2)), False)
        self.assertIs(goes_on("10", "10", (1, 2)), True)

    def test_shares_of_below_one(self):
        self.assertIs(goes_on("00", "000", (0, 1)), True)
        self.assertIs(goes_on("00", "001", (0, 1)), False)
        self.assertIs(goes_on("11", "1", (1, 1)), True)
        self.assertIs(goes_on("11", "0", (1, 1)), False)


class Gap(unittest.TestCase):
    def plain(self, row, other, share):
        # Only what makes the row can make it and more.
        starts = plain_starts(row, share)
        for many in range(len(other) + 1):
            rest = row + other[many:]
            if any(plain_row(share, start, len(rest)) == rest for start in starts):
                return many
        self.fail((row, other, share))

    def test_examples(self):
        self.assertEqual(gap("001", "01", (2, 5)), 0)
        self.assertEqual(gap("001", "101", (2, 5)), 1)
        self.assertEqual(gap("001", "11", (2, 5)), 2)
        self.assertEqual(gap("001", "", (2, 5)), 0)
        self.assertEqual(gap("", "1101", (2, 5)), 1)

    def test_all_short_rows(self):
        found = {}
        for share in SHARES:
            for row in [row for row in all_rows(4) if plain_starts(row, share)]:
                for other in all_rows(4):
                    told = gap(row, other, share)
                    self.assertEqual(told, self.plain(row, other, share))
                    self.assertIs(type(told), int)
                    kind = "none" if told == 0 else "all" if told == len(other) else "some"
                    found[kind] = found.get(kind, 0) + 1
        self.assertTrue(all(found[kind] > 100 for kind in ("none", "some", "all")))

    def test_long_rows(self):
        for share in LARGE:
            row = plain_row(share, 5, 600)
            self.assertEqual(gap(row[:200], row[200:], share), 0)
            for more in (1, 2, 40):
                told = gap(row[:250], row[250 - more:420], share)
                self.assertTrue(goes_on(row[:250], row[250 - more + told:420], share))
                self.assertLessEqual(told, more)
            for other in ("0" * 30 + "1" * 30, "1" * 30 + "0" * 30, mixed_row(2, 40)):
                self.assertEqual(gap(row[:220], other, share), self.plain(row[:220], other, share))

    def test_all_bits_of_a_long_row(self):
        self.assertEqual(gap("0" * 400, "1" * 400, (0, 1)), 400)
        self.assertEqual(gap("1" * 400, "1" * 399 + "0", (1, 1)), 400)
        self.assertEqual(gap("1" * 400, "0" * 399 + "1", (1, 1)), 399)

    def test_no_share(self):
        for share in SHARES:
            for row in [row for row in all_rows(5) if not plain_starts(row, share)]:
                for other in ("", "0", "1", "01"):
                    with self.assertRaises(NoShare):
                        gap(row, other, share)
        with self.assertRaises(NoShare):
            gap(mixed_row(1, 400), "", (1, 2))


class Sewn(unittest.TestCase):
    def test_examples(self):
        self.assertEqual(sewn("", 5, (2, 5)), "00101")
        self.assertEqual(sewn("1", 4, (2, 5)), "10010")
        self.assertEqual(sewn("10", 4, (2, 5)), "100101")
        self.assertEqual(sewn("0", 0, (2, 5)), "0")

    def test_by_the_least_start(self):
        later = 0
        for share in SHARES:
            for row in all_rows(6):
                starts = plain_starts(row, share)
                if not starts:
                    with self.assertRaises(NoShare):
                        sewn(row, 3, share)
                    with self.assertRaises(NoShare):
                        sewn(row, 0, share)
                    continue
                for many in (0, 1, 2, 9):
                    told = sewn(row, many, share)
                    self.assertEqual(told, plain_row(share, starts[0], len(row) + many))
                    self.assertTrue(told.startswith(row))
                    later += told != plain_row(share, starts[-1], len(row) + many)
        self.assertGreater(later, 0)

    def test_long_rows(self):
        for share in LARGE:
            for start in (0, 3, share[1] - 1):
                for bits in (0, 1, 10, 200, 400):
                    row = plain_row(share, start, bits)
                    least = plain_starts(row, share)[0]
                    for many in (0, 1, 400, 2000):
                        self.assertEqual(sewn(row, many, share), plain_row(share, least, bits + many))

    def test_an_empty_row(self):
        for share in SHARES + LARGE:
            self.assertEqual(sewn("", 0, share), "")
            self.assertEqual(sewn("", 50, share), plain_row(share, 0, 50))

    def test_what_was_sewn_may_be_handed_in_again(self):
        row = sewn("0010", 600, (2, 5))
        self.assertEqual(sewn(row, 5, (2, 5)), row + row[4:9])
        self.assertIs(goes_on(row, row[4:], (2, 5)), True)
        self.assertEqual(gap(row, "1" + row[4:], (2, 5)), 1)

    def test_the_same_again_behind_refusals(self):
        told = goes_on("001", "01", (2, 5)), gap("001", "101", (2, 5)), sewn("001", 4, (2, 5))
        for ask in (lambda: gap("11", "0", (2, 5)), lambda: sewn("11", 2, (2, 5))):
            with self.assertRaises(NoShare):
                ask()
        self.assertEqual((goes_on("001", "01", (2, 5)), gap("001", "101", (2, 5)), sewn("001", 4, (2, 5))), told)
