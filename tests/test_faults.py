import itertools
import unittest

from meanbits.errors import UnlikeRows
from meanbits.faults import fault_cost
from meanbits.rows import turned
from meanbits.sieves import sieved, weights
from tests.helper import all_rows, mixed_row

SMALL = [[1], [2], [5], [7], [2, 2], [3, 2], [3, 3], [4, 4], [2, 2, 2], [3, 3, 3], [2, 2, 2, 2], [1, 4, 1, 3]]
LARGE = [[30], [30, 30], [30, 30, 30, 30], [17, 2, 30]]


def by_trying(row, lengths, many):
    """The cost by trying all choices of at most so many places."""
    whole = sieved(row, lengths)[0]
    costs = [0]
    for some in range(min(many, len(row)) + 1):
        for places in itertools.combinations(range(len(row)), some):
            costs.append(abs(sieved(turned(row, list(places)), lengths)[0] - whole))
    return max(costs)


class FaultCost(unittest.TestCase):
    def assert_belongs(self, row, lengths, many, told):
        cost, places = told
        self.assertEqual((type(told), type(cost), type(places)), (tuple, int, list))
        self.assertTrue(all(type(place) is int and 0 <= place < len(row) for place in places))
        self.assertEqual(places, sorted(set(places)))
        self.assertLessEqual(len(places), many)
        changed = sieved(turned(row, places), lengths)[0] - sieved(row, lengths)[0]
        self.assertEqual(abs(changed), cost)

    def test_examples(self):
        self.assertEqual(fault_cost("000", [2, 2], 1), (2, [1]))
        self.assertEqual(fault_cost("010", [2, 2], 1), (2, [1]))
        self.assertEqual(fault_cost("010", [2, 2], 2)[0], 2)
        self.assertEqual(fault_cost("111", [2, 2], 2)[0], 3)
        self.assertEqual(fault_cost("1", [1], 1), (1, [0]))
        self.assertEqual(fault_cost("0", [1], 0), (0, []))

    def test_by_trying_all_choices(self):
        for lengths in SMALL:
            bits = len(weights(lengths))
            for row in [row for row in all_rows(bits) if len(row) == bits]:
                for many in range(bits + 2):
                    told = fault_cost(row, lengths, many)
                    self.assertEqual(told[0], by_trying(row, lengths, many), (row, lengths, many))
                    self.assert_belongs(row, lengths, many, told)

    def test_many_of_nought_and_of_more_than_the_bits(self):
        for lengths in SMALL + LARGE:
            heavy = weights(lengths)
            for row in ("0" * len(heavy), "1" * len(heavy), mixed_row(4, len(heavy))):
                self.assertEqual(fault_cost(row, lengths, 0), (0, []))
                up = sum(weight for weight, bit in zip(heavy, row) if bit == "0")
                for many in (len(heavy), len(heavy) + 1, 10 ** 18):
                    told = fault_cost(row, lengths, many)
                    self.assertEqual(told[0], max(up, sum(heavy) - up))
                    self.assert_belongs(row, lengths, many, told)

    def test_long_rows(self):
        for lengths in LARGE:
            heavy = weights(lengths)
            for seed in range(4):
                row = mixed_row(seed, len(heavy))
                for many in (1, 2, 7, len(heavy) // 2):
                    told = fault_cost(row, lengths, many)
                    self.assert_belongs(row, lengths, many, told)
                    ways = [sorted(weight for weight, other in zip(heavy, row) if other == bit)[-many:] for bit in "01"]
                    self.assertEqual(told[0], max(sum(ways[0]), sum(ways[1])))

    def test_unlike_rows(self):
        for lengths in SMALL + LARGE:
            bits = len(weights(lengths))
            for short in {0, bits - 1, bits + 1, 2 * bits, 400} - {bits}:
                for many in (0, 1, 500):
                    with self.assertRaises(UnlikeRows):
                        fault_cost("1" * short, lengths, many)

    def test_what_is_handed_in_and_told(self):
        lengths = [3, 2]
        told = fault_cost("0110", lengths, 2)
        wanted = (told[0], list(told[1]))
        self.assertEqual(lengths, [3, 2])
        told[1].append(9)
        with self.assertRaises(UnlikeRows):
            fault_cost("011", lengths, 2)
        self.assertEqual(lengths, [3, 2])
        self.assertEqual(fault_cost("0110", lengths, 2), wanted)
        self.assertIsNot(fault_cost("0110", lengths, 2)[1], fault_cost("0110", lengths, 2)[1])
        self.assertIsNot(fault_cost("0110", lengths, 0)[1], fault_cost("0110", lengths, 0)[1])
