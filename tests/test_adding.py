import unittest

from meanbits.adding import added
from meanbits.errors import UnlikeRows
from meanbits.maker import made
from meanbits.rows import flipped
from tests.helper import all_rows, mixed_row, numbers

LONG = ["0" * 400, "1" * 400, "01" * 200, mixed_row(5, 400), mixed_row(6, 400)]


def by_steps(one, other):
    """The sum by the words of the point, the waiting ones as a list."""
    waiting, row, waited = [], "", []
    for pair in zip(one, other):
        waiting += [bit for bit in pair if bit == "1"]
        row += waiting.pop() if waiting else "0"
        waited.append(len(waiting))
    return (row, len(waiting), max(waited, default=0))


class Added(unittest.TestCase):
    def test_examples(self):
        self.assertEqual(added("", ""), ("", 0, 0))
        self.assertEqual(added("0", "0"), ("0", 0, 0))
        self.assertEqual(added("1", "0"), ("1", 0, 0))
        self.assertEqual(added("1", "1"), ("1", 1, 1))
        self.assertEqual(added("1100", "1100"), ("1111", 0, 2))
        self.assertEqual(added("0101", "0101"), ("0111", 1, 1))
        self.assertEqual(added("110000", "110000"), ("111100", 0, 2))

    def test_rows_of_one_sign(self):
        for many in (1, 2, 400):
            noughts, all_ones = "0" * many, "1" * many
            self.assertEqual(added(noughts, noughts), (noughts, 0, 0))
            self.assertEqual(added(all_ones, noughts), (all_ones, 0, 0))
            self.assertEqual(added(all_ones, all_ones), (all_ones, many, many))

    def test_a_row_and_its_flipped_one(self):
        for row in all_rows(6) + LONG:
            self.assertEqual(added(row, flipped(row)), ("1" * len(row), 0, 0))

    def test_alike_rows(self):
        for row in all_rows(7) + LONG:
            self.assertEqual(added(row, row), by_steps(row, row))

    def test_the_steps_either_way_round(self):
        pairs = [(one, other) for one in all_rows(5) for other in all_rows(5) if len(one) == len(other)]
        pairs += [(one, other) for one in LONG for other in LONG]
        for one, other in pairs:
            told = added(one, other)
            self.assertEqual(told, by_steps(one, other))
            self.assertEqual(told, added(other, one))
            self.assertEqual([type(told)] + [type(part) for part in told], [tuple, str, int, int])
            self.assertEqual(told[0].count("1") + told[1], one.count("1") + other.count("1"))

    def test_unlike_rows(self):
        for one, other in [("", "0"), ("1", ""), ("01", "0"), ("0", "01"), ("1" * 399, "1" * 400)]:
            with self.assertRaises(UnlikeRows):
                added(one, other)

    def test_made_rows_of_numbers_together_at_most_one(self):
        for below in (1, 2, 5, 10 ** 6):
            tops = numbers(below, 200, below)
            for rest in ([below - top for top in tops], [(below - top) // 2 for top in tops]):
                for start in {0, below // 2, below - 1}:
                    for other in {0, below // 3, below - 1}:
                        told = added(made((below, tops), start), made((below, rest), other))
                        self.assertLessEqual(told[2], 1)
