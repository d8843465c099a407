import copy
import itertools
import unittest

from meanbits.errors import TooMuch, TooShort
from meanbits.reading import nearest
from meanbits.sievebounds import peak, read_by_sieve, shows_worst_wave, sure_most, worst_wave
from meanbits.sieves import readings, weights
from meanbits.steady import steady
from tests.helper import ODD_THINGS, all_rows, all_shares, altered, mixed_row, numbers

SHORT = [list(some) for many in (1, 2, 3) for some in itertools.product(range(1, 5), repeat=many)]
LONG = [[30], [29, 30], [7, 30, 11], [30, 30, 30, 30], [1, 1, 1, 1], [1, 30, 1, 2], [5, 5, 5, 5], [30, 1], [2, 2, 2, 2]]
SIEVES = SHORT + LONG
BELOWS = [1, 2, 3, 4, 7, 10, 999, 10 ** 6]


def plain_row(below, start, tops):
    """The bits, by the words of one carried error."""
    bits = []
    error = start
    for top in tops:
        error += top
        bits.append(1 if error >= below else 0)
        error -= below * bits[-1]
    return bits


def plain_off(lengths, below, start, tops):
    heavy = weights(lengths)
    bits = plain_row(below, start, tops)
    return below * sum(weight * bit for weight, bit in zip(heavy, bits)) - \
        sum(weight * top for weight, top in zip(heavy, tops))


def plainly_shows(lengths, below, up, thing):
    """Whether a thing shows it, looked at anew."""
    if type(thing) is not tuple or [type(part) for part in thing] != [int, list]:
        return False
    start, tops = thing
    if not 0 <= start <= below - 1 or any(type(top) is not int or not 0 <= top <= below for top in tops):
        return False
    if len(tops) != len(weights(lengths)):
        return False
    off = plain_off(lengths, below, start, tops)
    return off == (below - 1) * max(weights(lengths)) * (1 if up == 1 else -1)


def plain_sure(lengths):
    whole = 1
    for length in lengths:
        whole *= length
    return max(most for most in range(1, 500) if 2 * most * (most - 1) * max(weights(lengths)) <= whole or most == 1)


class Peak(unittest.TestCase):
    def test_examples(self):
        self.assertEqual(peak([1]), 1)
        self.assertEqual(peak([30]), 1)
        self.assertEqual(peak([2, 3]), 2)
        self.assertEqual(peak([2, 2]), 2)
        self.assertEqual(peak([2, 2, 2]), 3)
        self.assertEqual(peak([3, 3, 3]), 7)

    def test_the_greatest_weight(self):
        for lengths in SIEVES:
            before = list(lengths)
            told = peak(lengths)
            self.assertEqual(told, sorted(weights(lengths))[-1])
            self.assertIs(type(told), int)
            self.assertEqual(lengths, before)

    def test_made_rows_keep_the_bound(self):
        for lengths in SHORT[::3] + LONG:
            many = len(weights(lengths))
            for below in BELOWS:
                bound = (below - 1) * peak(lengths)
                for seed in range(6):
                    tops = numbers(seed, many, below)
                    for start in {0, below - 1, below // 2}:
                        self.assertLessEqual(abs(plain_off(lengths, below, start, tops)), bound)

    def test_all_small_waves_keep_the_bound_and_some_come_to_it(self):
        for lengths, below in [([2], 3), ([3], 2), ([2, 2], 3), ([1, 2], 4), ([2, 3], 2)]:
            offs = set()
            for tops in itertools.product(range(below + 1), repeat=len(weights(lengths))):
                for start in range(below):
                    offs.add(plain_off(lengths, below, start, list(tops)))
            bound = (below - 1) * peak(lengths)
            self.assertEqual((max(offs), min(offs)), (bound, -bound))


class WorstWave(unittest.TestCase):
    def test_it_is_off_by_just_so_much(self):
        for lengths in SIEVES:
            for below in BELOWS:
                for up in (0, 1):
                    before = list(lengths)
                    told = worst_wave(lengths, below, up)
                    self.assertTrue(plainly_shows(lengths, below, up, told), (lengths, below, up, told))
                    self.assertIs(shows_worst_wave(lengths, below, up, told), True)
                    self.assertEqual(lengths, before)

    def test_told_lists_are_the_askers_own(self):
        for up in (0, 1):
            told = worst_wave([2, 3], 5, up)
            wanted = copy.deepcopy(told)
            told[1].append(9)
            self.assertEqual(worst_wave([2, 3], 5, up), wanted)
            self.assertIsNot(worst_wave([2, 3], 5, up)[1], worst_wave([2, 3], 5, up)[1])


class ShowsWorstWave(unittest.TestCase):
    def assert_shows(self, lengths, below, up, thing, wanted):
        before = copy.deepcopy((lengths, thing))
        self.assertIs(shows_worst_wave(lengths, below, up, thing), wanted, (lengths, below, up, thing))
        self.assertEqual((lengths, thing), before)

    def test_all_small_waves(self):
        for lengths, below in [([1], 1), ([1], 3), ([2], 2), ([3], 2), ([2, 2], 3), ([1, 2], 4), ([2, 3], 2), ([2, 2],
                                                                                                               1)]:
            for up in (0, 1):
                shown = 0
                for tops in itertools.product(range(below + 1), repeat=len(weights(lengths))):
                    for start in range(below):
                        thing = (start, list(tops))
                        wanted = plainly_shows(lengths, below, up, thing)
                        self.assert_shows(lengths, below, up, thing, wanted)
                        shown += wanted
                self.assertGreater(shown, 0)

    def test_other_waves_that_are_off_by_just_so_much(self):
        for lengths in LONG:
            heavy = weights(lengths)
            for below in (2, 7, 10 ** 6):
                start, tops = worst_wave(lengths, below, 1)
                # Tops of below ahead and behind keep the error as those of 0 do.
                full = [below if top == 0 else top for top in tops]
                mixed = [below if top == 0 and at % 3 else top for at, top in enumerate(tops)]
                for other in (full, mixed):
                    self.assert_shows(lengths, below, 1, (start, other), True)
                    self.assert_shows(lengths, below, 0, (start, other), False)
                last = len(heavy) - 1 - heavy[::-1].index(max(heavy))
                moved = [0] * len(heavy)
                moved[last] = 1
                self.assert_shows(lengths, below, 1, (below - 1, moved), True)
                moved[last] = below - 1
                self.assert_shows(lengths, below, 0, (0, moved), True)

    def test_below_of_one(self):
        # Nothing can be off, so each wave is off by just so much, both ways.
        for up in (0, 1):
            for tops in itertools.product((0, 1), repeat=4):
                self.assert_shows([2, 3], 1, up, (0, list(tops)), True)
            for thing in [(1, [0, 0, 0, 0]), (0, [0, 0, 0, 2]), (0, [0, 0, 0, -1]), (0, [0, 0, 0]), (0, [0] * 5),
                          (0, [0, 0, 0, True]), (False, [0, 0, 0, 0]), (0, (0, 0, 0, 0)), (0, "0000"), (-1, [0] * 4)]:
                self.assert_shows([2, 3], 1, up, thing, False)

    def test_the_other_way(self):
        for lengths in SIEVES[::5]:
            for below in BELOWS[1:]:
                for up in (0, 1):
                    self.assert_shows(lengths, below, 1 - up, worst_wave(lengths, below, up), False)

    def test_altered_at_one_place(self):
        for lengths in [[1], [4], [2, 3], [3, 1, 2], [2, 2, 2, 2]]:
            for below in (1, 2, 5, 10 ** 6):
                for up in (0, 1):
                    told = worst_wave(lengths, below, up)
                    full = (told[0], [below if top == 0 else top for top in told[1]])
                    for thing in (told, full):
                        for other in altered(thing):
                            self.assert_shows(lengths, below, up, other, plainly_shows(lengths, below, up, other))

    def test_one_part_otherwise(self):
        lengths, below, start, tops = [2, 3], 5, 4, [0, 1, 0, 0]
        self.assert_shows(lengths, below, 1, (start, tops), True)
        for thing in [(start - 1, tops), (start + 1, tops), (start, [0, 2, 0, 0]), (start, [0, 0, 0, 0]),
                      (start, [1, 1, 0, 0]), (start, [-5, 1, 0, 0]), (start, [0, 6, 0, 0]), (start, [0, 1, 0, 10]),
                      (start, [0, 1, 0, True]), (start, [0, True, 0, 0]), (start, [0, 1, 0, False]),
                      (start, [0, "1", 0, 0]), (start, [0, 1, 0, None]), (start, [0, 1, 0]), (start, [0, 1, 0, 0, 0]),
                      (start, [0, 1, 1, 0, 0]), (start, []), (start, tuple(tops)), [start, tops], (start,), (tops,),
                      (start, tops, 0), (start, tops, tops), (tops, start), (None, tops), ("4", tops), (True, tops),
                      (start, None), (start, "0100"), (-1, tops), (-10 ** 30, tops), (10 ** 30, tops),
                      (start, [0, 10 ** 30, 0, 0]), ((start, tops),), [(start, tops)], (start, [tops]), (start, [[0], 1,
                                                                                                                 0,
                                                                                                                 0])]:
            self.assert_shows(lengths, below, 1, thing, False)

    def test_other_things(self):
        for up in (0, 1):
            for below in (1, 2, 10):
                for thing in ODD_THINGS:
                    self.assert_shows([2, 3], below, up, thing, False)


class SureMost(unittest.TestCase):
    def test_examples(self):
        self.assertEqual(sure_most([1]), 1)
        self.assertEqual(sure_most([3]), 1)
        self.assertEqual(sure_most([4]), 2)
        self.assertEqual(sure_most([11]), 2)
        self.assertEqual(sure_most([12]), 3)
        self.assertEqual(sure_most([23]), 3)
        self.assertEqual(sure_most([24]), 4)

    def test_by_going_through(self):
        for lengths in SIEVES + [[length] for length in range(1, 31)]:
            before = list(lengths)
            told = sure_most(lengths)
            self.assertEqual(told, plain_sure(lengths))
            self.assertIs(type(told), int)
            self.assertEqual(lengths, before)

    def test_a_longer_sieve(self):
        self.assertEqual(sure_most([200]), plain_sure([200]))
        self.assertEqual(sure_most([200, 150]), plain_sure([200, 150]))


class ReadBySieve(unittest.TestCase):
    def test_steady_rows(self):
        for lengths in [[4], [12], [24], [30], [30, 30], [12, 30], [9, 9, 9], [30, 30, 30, 30], [1, 24], [3]]:
            many = len(weights(lengths))
            for most in range(1, sure_most(lengths) + 1):
                for share in all_shares(most):
                    for start in range(share[1]):
                        for bits in (many, many + 1, 400):
                            told = read_by_sieve(steady(share, start, bits), lengths, most)
                            self.assertEqual(told, share)

    def test_any_rows(self):
        for lengths in [[1], [4], [2, 2], [12], [24], [5, 9], [30, 30, 30]]:
            many = len(weights(lengths))
            rows = [row for row in all_rows(7) if len(row) >= many] + [mixed_row(seed,
                                                                                 many + seed) for seed in range(20)]
            for row in rows:
                for most in range(1, sure_most(lengths) + 1):
                    before = list(lengths)
                    told = read_by_sieve(row, lengths, most)
                    self.assertEqual(told, nearest(readings(row, lengths)[0], most))
                    self.assertEqual([type(told), type(told[0]), type(told[1])], [tuple, int, int])
                    self.assertEqual(lengths, before)

    def test_the_first_reading_alone(self):
        self.assertEqual(read_by_sieve("0000" + "1" * 50, [4], 2), (0, 1))
        self.assertEqual(read_by_sieve("1111" + "0" * 50, [4], 2), (1, 1))
        self.assertEqual(read_by_sieve("0101" + "0" * 50, [4], 2), (1, 2))
        # 1/4 is as near to 0 as to 1/2, 3/4 as to 1/2 and 1.
        self.assertEqual(read_by_sieve("0100" + "1" * 50, [4], 2), (0, 1))
        self.assertEqual(read_by_sieve("0111" + "1" * 50, [4], 2), (1, 2))

    def test_too_short_then_too_much(self):
        for lengths in SIEVES:
            many = len(weights(lengths))
            sure = sure_most(lengths)
            for most in (1, sure, sure + 1, sure + 50):
                for row in ("0" * (many - 1), mixed_row(2, many - 1), ""):
                    with self.assertRaises(TooShort):
                        read_by_sieve(row, lengths, most)
            for most in (sure + 1, sure + 2, 10 ** 9):
                for row in ("0" * many, mixed_row(2, many + 3)):
                    with self.assertRaises(TooMuch):
                        read_by_sieve(row, lengths, most)
            read_by_sieve("0" * many, lengths, sure)

    def test_the_same_again_behind_refusals(self):
        lengths = [12]
        told = read_by_sieve("010" * 4, lengths, 3), peak(lengths), sure_most(lengths), worst_wave(lengths, 3, 1)
        with self.assertRaises(TooShort):
            read_by_sieve("010" * 3, lengths, 3)
        with self.assertRaises(TooMuch):
            read_by_sieve("010" * 4, lengths, 4)
        self.assertEqual(lengths, [12])
        again = read_by_sieve("010" * 4, lengths, 3), peak(lengths), sure_most(lengths), worst_wave(lengths, 3, 1)
        self.assertEqual(again, told)
