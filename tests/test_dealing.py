import copy
import itertools
import unittest
from fractions import Fraction

from meanbits.dealing import dealt, shows_worst_levels, weigh_bound, weighed, worst_levels
from meanbits.errors import TooMuch, UnlikeRows
from meanbits.rows import is_row
from tests.helper import ODD_THINGS, all_rows, altered, by_fraction, mixed_row, numbers, stretches

SMALL_WEIGHTS = [list(some) for many in (1, 2, 3, 4) for some in itertools.product(range(4), repeat=many)]
GREAT_WEIGHTS = [numbers(seed, many, 10 ** 6) for many in range(1, 9) for seed in range(4)]
ALIKE_WEIGHTS = [[weight] * many for many in range(1, 9) for weight in (0, 1, 10 ** 6)]
WEIGHTS = SMALL_WEIGHTS + GREAT_WEIGHTS + ALIKE_WEIGHTS
FEW_WEIGHTS = [[3], [0], [1, 0], [0, 1], [2, 2], [5, 0, 1], [0, 0, 7, 7], [1, 1, 1], [4, 1, 0, 3, 9, 2, 2, 8],
               [10 ** 6, 0, 10 ** 6, 0], [1, 2, 4]]


def by_steps(levels, many):
    """The dealt rows, one after the other taken from a hand that goes round."""
    rows = ["" for _ in range(many)]
    hand = itertools.cycle(range(many))
    for level in levels:
        got = [next(hand) for _ in range(level)]
        rows = [row + ("1" if number in got else "0") for number, row in enumerate(rows)]
    return rows


def all_sides(weights):
    """The sums of weights less the mean of all rows side by side, round and round."""
    mean = Fraction(sum(weights), len(weights))
    for first in range(len(weights)):
        for many in range(len(weights) + 1):
            yield sum((weights[(first + more) % len(weights)] - mean for more in range(many)), Fraction(0))


def stretch_sum(weights, levels, stretch):
    """The weighed sums of the dealt rows over a stretch, less the mean weight times the levels."""
    sums = [sum(weight for weight, bit in zip(weights, bits) if bit == "1")
            for bits in zip(*by_steps(levels, len(weights)))]
    one, other = stretch
    return sum(sums[one:other]) - Fraction(sum(weights), len(weights)) * sum(levels[one:other])


def plainly_shows(weights, thing):
    """Whether a thing shows it, looked at anew."""
    if type(thing) is not tuple or [type(part) for part in thing] != [list, tuple]:
        return False
    levels, stretch = thing
    if any(type(level) is not int or not 0 <= level <= len(weights) for level in levels):
        return False
    if [type(place) for place in stretch] != [int, int] or tuple(stretch) not in stretches(len(levels)):
        return False
    return stretch_sum(weights, levels, stretch) == max(all_sides(weights))


class Dealt(unittest.TestCase):
    def test_examples(self):
        self.assertEqual(dealt([1, 1, 1, 1], 2), ["1010", "0101"])
        self.assertEqual(dealt([2, 0, 2, 1], 3), ["1010", "1001", "0010"])
        self.assertEqual(dealt([0, 1, 0], 1), ["010"])
        self.assertEqual(dealt([3, 2, 2], 3), ["111", "110", "101"])

    def test_no_levels_and_levels_at_the_ends(self):
        for many in range(1, 9):
            self.assertEqual(dealt([], many), [""] * many)
            self.assertEqual(dealt([0, 0], many), ["00"] * many)
            self.assertEqual(dealt([many, 0, many], many), ["101"] * many)

    def test_the_steps_of_all_short_levels(self):
        for many in range(1, 5):
            for steps in range(5):
                for levels in itertools.product(range(many + 1), repeat=steps):
                    self.assertEqual(dealt(list(levels), many), by_steps(levels, many))

    def test_the_steps_of_long_levels(self):
        for many in range(1, 9):
            for levels in (numbers(many, 400, many), [1] * 400, [many - 1] * 400, [0, many] * 200):
                told = dealt(levels, many)
                self.assertEqual(told, by_steps(levels, many))
                self.assertIs(type(told), list)
                self.assertTrue(all(is_row(row) for row in told))

    def test_each_row_is_off_by_less_than_one(self):
        for many in range(1, 9):
            for levels in (numbers(7, 60, many), [1] * 60, [many // 2, many] * 30):
                rows = dealt(levels, many)
                for one, other in stretches(60):
                    for row in rows:
                        self.assertLess(abs(many * row[one:other].count("1") - sum(levels[one:other])), many)

    def test_too_much(self):
        for many in range(1, 9):
            for level in (-1, many + 1, -many, 10 ** 30, -10 ** 30):
                for levels in ([level], [level, 0, many], [0, many, level], [0, level, many]):
                    before = list(levels)
                    with self.assertRaises(TooMuch):
                        dealt(levels, many)
                    self.assertEqual(levels, before)

    def test_what_is_handed_in_and_told(self):
        levels = [1, 2, 0, 3]
        told = dealt(levels, 3)
        wanted = list(told)
        told.clear()
        with self.assertRaises(TooMuch):
            dealt(levels, 2)
        self.assertEqual(levels, [1, 2, 0, 3])
        self.assertEqual(dealt(levels, 3), wanted)
        self.assertIsNot(dealt(levels, 3), dealt(levels, 3))


class Weighed(unittest.TestCase):
    def test_examples(self):
        self.assertEqual(weighed(["0110"], [5]), [0, 5, 5, 0])
        self.assertEqual(weighed(["0110", "0011"], [1, 2]), [0, 1, 3, 2])
        self.assertEqual(weighed(["11", "11"], [0, 0]), [0, 0])

    def test_rows_without_bits(self):
        for many in range(1, 9):
            self.assertEqual(weighed([""] * many, [1] * many), [])

    def test_all_short_rows(self):
        for one, other in itertools.product(all_rows(4), repeat=2):
            if len(one) == len(other):
                told = weighed([one, other], [3, 10])
                self.assertEqual(told, [3 * int(first) + 10 * int(second) for first, second in zip(one, other)])

    def test_many_long_rows(self):
        for many in range(1, 9):
            rows = [mixed_row(seed, 400) for seed in range(many)]
            weights = numbers(many, many, 10 ** 6)
            told = weighed(rows, weights)
            self.assertEqual({type(told)} | {type(one) for one in told}, {list, int})
            for place in range(400):
                self.assertEqual(told[place], sum(weights[at] for at in range(many) if rows[at][place] == "1"))

    def test_unlike_rows(self):
        for rows in (["", "0"], ["0", ""], ["0", "01"], ["01", "01", "0"], ["0", "01", "01"], ["01", "0", "01"]):
            with self.assertRaises(UnlikeRows):
                weighed(rows, [1] * len(rows))

    def test_what_is_handed_in_and_told(self):
        rows, weights = ["0110", "1111"], [2, 3]
        told = weighed(rows, weights)
        told.append(9)
        with self.assertRaises(UnlikeRows):
            weighed(rows + ["0"], weights + [1])
        self.assertEqual((rows, weights), (["0110", "1111"], [2, 3]))
        self.assertEqual(weighed(rows, weights), [3, 5, 5, 3])
        self.assertIsNot(weighed(rows, weights), weighed(rows, weights))


class WeighBound(unittest.TestCase):
    def test_examples(self):
        self.assertEqual(weigh_bound([5]), ((0, 1), (0, 1)))
        self.assertEqual(weigh_bound([1, 0]), ((1, 2), (-1, 2)))
        self.assertEqual(weigh_bound([5, 0, 1]), ((3, 1), (-3, 1)))
        self.assertEqual(weigh_bound([0, 0, 1, 1]), ((1, 1), (-1, 1)))
        self.assertEqual(weigh_bound([1, 0, 0, 1]), ((1, 1), (-1, 1)))

    def test_one_weight_and_weights_alike(self):
        for weights in ALIKE_WEIGHTS:
            self.assertEqual(weigh_bound(weights), ((0, 1), (0, 1)))

    def test_by_all_beginnings_and_numbers_of_rows(self):
        for weights in WEIGHTS:
            before = list(weights)
            told = weigh_bound(weights)
            sides = list(all_sides(weights))
            wanted = [(side.numerator, side.denominator) for side in (max(sides), min(sides))]
            self.assertEqual(told, tuple(wanted))
            self.assertEqual([type(told)] + [type(part) for part in told], [tuple] * 3)
            self.assertEqual(weights, before)

    def test_dealt_rows_keep_it(self):
        for weights in FEW_WEIGHTS:
            most, least = [by_fraction(part) for part in weigh_bound(weights)]
            levels = numbers(3, 30, len(weights))
            for stretch in stretches(30):
                self.assertTrue(least <= stretch_sum(weights, levels, stretch) <= most)


class WorstLevels(unittest.TestCase):
    def test_its_stretch_is_just_most(self):
        for weights in WEIGHTS:
            before = list(weights)
            told = worst_levels(weights)
            self.assertTrue(plainly_shows(weights, told), (weights, told))
            self.assertEqual(stretch_sum(weights, *told), by_fraction(weigh_bound(weights)[0]))
            self.assertIs(shows_worst_levels(weights, told), True)
            self.assertEqual(weights, before)

    def test_told_lists_are_the_askers_own(self):
        for weights in FEW_WEIGHTS:
            told = worst_levels(weights)
            wanted = copy.deepcopy(told)
            told[0].append(1)
            self.assertEqual(worst_levels(weights), wanted)
            self.assertIsNot(worst_levels(weights)[0], worst_levels(weights)[0])


class ShowsWorstLevels(unittest.TestCase):
    def assert_shows(self, weights, thing, wanted):
        before = copy.deepcopy((weights, thing))
        self.assertIs(shows_worst_levels(weights, thing), wanted, (weights, thing))
        self.assertEqual((weights, thing), before)

    def test_all_short_levels_and_stretches(self):
        for weights in [[3], [1, 0], [2, 2], [5, 0, 1], [0, 4, 1]]:
            shown = 0
            for many in range(4):
                for levels in itertools.product(range(len(weights) + 1), repeat=many):
                    for stretch in stretches(many):
                        thing = (list(levels), stretch)
                        wanted = plainly_shows(weights, thing)
                        self.assert_shows(weights, thing, wanted)
                        shown += wanted
            self.assertGreater(shown, 2)

    def test_other_levels_that_come_to_most(self):
        for weights in FEW_WEIGHTS:
            levels, (one, other) = worst_levels(weights)
            rows = len(weights)
            for ahead in ([], [0], [rows], [rows, rows, 0]):
                place = len(ahead)
                longer = ahead + levels + [0, rows, 1 % rows]
                self.assert_shows(weights, (longer, (one + place, other + place)), True)
                self.assert_shows(weights, (longer, (one + place, other + place + 1)), True)
                self.assert_shows(weights, (longer, (one + place, other + place + 2)), True)

    def test_long_levels(self):
        for weights in FEW_WEIGHTS:
            levels = numbers(8, 400, len(weights))
            for stretch in [(0, 1), (0, 400), (399, 400), (17, 230), (5, 7)]:
                self.assert_shows(weights, (levels, stretch), plainly_shows(weights, (levels, stretch)))

    def test_levels_out_of_bounds(self):
        # The same ones would be dealt by these levels, were they allowed.
        self.assert_shows([1, 0], ([0, 1], (1, 2)), True)
        self.assert_shows([1, 0], ([-2, 1], (1, 2)), False)
        self.assert_shows([1, 0], ([4, 1], (1, 2)), False)
        self.assert_shows([1, 0], ([0, 3], (1, 2)), False)
        self.assert_shows([1, 0], ([0, 1, 3], (1, 2)), False)
        self.assert_shows([1, 0], ([0, 1, -1], (1, 2)), False)
        self.assert_shows([3], ([2], (0, 1)), False)

    def test_truths_in_the_place_of_numbers(self):
        self.assert_shows([1, 0], ([0, True], (1, 2)), False)
        self.assert_shows([1, 0], ([False, 1], (1, 2)), False)
        self.assert_shows([1, 0], ([0, 1], (True, 2)), False)
        self.assert_shows([1, 0], ([1], (0, 1)), True)
        self.assert_shows([1, 0], ([1], (False, 1)), False)
        self.assert_shows([1, 0], ([1], (0, True)), False)
        self.assert_shows([1, 0], ([1, True], (0, 1)), False)

    def test_stretches(self):
        # Weights alike: every stretch comes to most, so only its form is asked.
        levels = [1, 2, 0]
        for stretch in stretches(3):
            self.assert_shows([4, 4], (levels, stretch), True)
        for stretch in [(1, 0), (2, 1), (3, 0), (0, 0), (1, 1), (3, 3), (0, 4), (2, 5), (3, 4), (-1, 1), (-1, 3),
                        (-3, -1), (0,), (), (0, 1, 2), (0, 1, 1), [0, 1], "01", None, True, 1, ("0", "1"),
                        (0, None), (None, 1), ((0, 1),), (0, (1,)), (10 ** 30, 10 ** 31)]:
            self.assert_shows([4, 4], (levels, stretch), False)
        self.assert_shows([4, 4], ([], (0, 1)), False)
        self.assert_shows([4, 4], ([], (0, 0)), False)

    def test_kinds(self):
        levels, stretch = [0, 1], (1, 2)
        self.assert_shows([1, 0], (levels, stretch), True)
        for thing in [[levels, stretch], (tuple(levels), stretch), (levels, list(stretch)), (stretch, levels),
                      (levels,), (stretch,), (levels, stretch, stretch), (levels, stretch, None), levels, stretch,
                      ((levels, stretch),), [(levels, stretch)], ("01", stretch), (None, stretch), (1, stretch),
                      ([levels], stretch), ([0, "1"], stretch), ([0, None], stretch), ([0, [1]], stretch),
                      ([0, 1, None], stretch), ([0, 1, ""], stretch), ([0, 1, []], stretch)]:
            self.assert_shows([1, 0], thing, False)

    def test_things_altered_at_one_place(self):
        for weights in FEW_WEIGHTS:
            told = worst_levels(weights)
            for thing in [told, ([1 % len(weights)] + told[0] + [0], (2, 3))]:
                for other in altered(thing):
                    self.assert_shows(weights, other, plainly_shows(weights, other))

    def test_other_things(self):
        for weights in FEW_WEIGHTS:
            for thing in ODD_THINGS:
                self.assert_shows(weights, thing, False)
