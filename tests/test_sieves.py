import collections
import itertools
import math
import unittest
from fractions import Fraction

from meanbits.sieves import readings, sieved, weights
from tests.helper import all_rows, mixed_row

SMALL = [list(lengths) for many in (1, 2, 3) for lengths in itertools.product(range(1, 5), repeat=many)]
LARGE = [[30], [30, 30], [30, 29, 28], [30, 30, 30, 30], [30, 1, 1, 30], [1, 2, 3, 4], [7, 7, 7, 7], [30, 2, 17, 5]]
ROWS = ["0" * 400, "1" * 400, "01" * 200, mixed_row(11, 400), mixed_row(12, 400)]


def by_counting(lengths):
    """The weights by going through all ways."""
    ways = [sum(one) for one in itertools.product(*[range(length) for length in lengths])]
    return [ways.count(place) for place in range(max(ways) + 1)]


def by_halves(lengths):
    """The weights by the ways of two lengths at a time, for lengths with too many ways to go through."""
    halves = [collections.Counter(sum(one) for one in itertools.product(*[range(length) for length in half]))
              for half in (lengths[:2], lengths[2:])]
    ways = collections.Counter()
    for (one, many), (other, more) in itertools.product(*[half.items() for half in halves]):
        ways[one + other] += many * more
    return [ways[place] for place in range(max(ways) + 1)]


def by_places(row, heavy):
    return [sum(weight for at, weight in enumerate(heavy) if row[place + at] == "1")
            for place in range(len(row)) if place + len(heavy) <= len(row)]


class Weights(unittest.TestCase):
    def test_examples(self):
        self.assertEqual(weights([1]), [1])
        self.assertEqual(weights([3]), [1, 1, 1])
        self.assertEqual(weights([2, 2]), [1, 2, 1])
        self.assertEqual(weights([2, 3]), [1, 2, 2, 1])
        self.assertEqual(weights([2, 2, 2, 2]), [1, 4, 6, 4, 1])

    def test_one_length(self):
        for length in range(1, 31):
            self.assertEqual(weights([length]), [1] * length)

    def test_lengths_of_one(self):
        for many in range(1, 5):
            self.assertEqual(weights([1] * many), [1])
        for lengths in ([1, 5], [5, 1], [1, 5, 1], [1, 1, 1, 5]):
            self.assertEqual(weights(lengths), [1] * 5)

    def test_by_counting_the_ways(self):
        for lengths in SMALL + [[5, 6, 7, 8], [1, 2, 3, 4]]:
            self.assertEqual(weights(lengths), by_counting(lengths))

    def test_lengths_to_thirty(self):
        for lengths in LARGE:
            told = weights(lengths)
            self.assertIs(type(told), list)
            self.assertEqual(len(told), sum(length - 1 for length in lengths) + 1)
            self.assertEqual(sum(told), math.prod(lengths))
            self.assertEqual(told, told[::-1])
            self.assertEqual(told, by_halves(lengths))

    def test_the_order_of_lengths_is_nothing(self):
        for lengths in itertools.permutations([2, 5, 9, 30]):
            self.assertEqual(weights(list(lengths)), weights([2, 5, 9, 30]))


class Sieved(unittest.TestCase):
    def test_examples(self):
        self.assertEqual(sieved("0110", [2]), [1, 2, 1])
        self.assertEqual(sieved("01101", [2, 2]), [3, 3, 2])
        self.assertEqual(sieved("0110", [1]), [0, 1, 1, 0])
        self.assertEqual(readings("01101", [2, 2]), [(3, 4), (3, 4), (1, 2)])

    def test_just_as_long_as_the_weights(self):
        for lengths in SMALL:
            heavy = by_counting(lengths)
            for row in [row for row in all_rows(5) if len(row) == len(heavy)]:
                wanted = sum(weight for weight, bit in zip(heavy, row) if bit == "1")
                self.assertEqual(sieved(row, lengths), [wanted])
        for lengths in LARGE:
            many = len(weights(lengths))
            self.assertEqual(sieved("1" * many, lengths), [math.prod(lengths)])
            self.assertEqual(sieved("0" * many, lengths), [0])
            self.assertEqual(readings("1" * many, lengths), [(1, 1)])

    def test_shorter_rows(self):
        for lengths in SMALL + LARGE:
            many = len(weights(lengths))
            for short in {0, many // 2, many - 1}:
                self.assertEqual(sieved("1" * short, lengths), [])
                self.assertEqual(readings("1" * short, lengths), [])

    def test_longer_rows(self):
        for lengths in SMALL[:30]:
            heavy = by_counting(lengths)
            for row in all_rows(7):
                self.assertEqual(sieved(row, lengths), by_places(row, heavy))

    def test_long_rows(self):
        for lengths in SMALL[::7] + LARGE:
            for row in ROWS:
                told = sieved(row, lengths)
                self.assertEqual(told, by_places(row, weights(lengths)))
                self.assertEqual(len(told), 400 - len(weights(lengths)) + 1)
                self.assertEqual({type(told)} | {type(one) for one in told}, {list, int})


class Readings(unittest.TestCase):
    def test_in_lowest_terms(self):
        for lengths in SMALL[::3] + LARGE:
            for row in ROWS + ["", "0", "1", "0011010"]:
                told = readings(row, lengths)
                wanted = [Fraction(one, math.prod(lengths)) for one in sieved(row, lengths)]
                self.assertEqual(told, [(one.numerator, one.denominator) for one in wanted])
                self.assertEqual({type(told)} | {type(one) for one in told}, {list, tuple} if told else {list})


class Lists(unittest.TestCase):
    def test_what_is_handed_in_and_told(self):
        for ask in (weights, lambda lengths: sieved("0110100", lengths), lambda lengths: readings("0110100", lengths)):
            for lengths in ([1], [3], [2, 3], [1, 1]):
                before = list(lengths)
                told = ask(lengths)
                wanted = list(told)
                self.assertEqual(lengths, before)
                self.assertIsNot(ask(lengths), told)
                told.append(5)
                told[0] = None
                self.assertEqual(lengths, before)
                self.assertEqual(ask(lengths), wanted)

    def test_changed_lengths_are_asked_anew(self):
        lengths = [2]
        self.assertEqual(weights(lengths), [1, 1])
        lengths.append(2)
        self.assertEqual(weights(lengths), [1, 2, 1])
