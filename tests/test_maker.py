import copy
import itertools
import unittest

from meanbits.errors import NoStart, NoTop
from meanbits.maker import Maker, errors, is_wave, made
from tests.helper import ODD_THINGS, altered, numbers, stretches


def small_waves():
    for below in range(1, 5):
        for many in range(4):
            for tops in itertools.product(range(below + 1), repeat=many):
                yield (below, list(tops))


def long_waves():
    for below in (1, 2, 7, 10 ** 6, 10 ** 12 - 1):
        for tops in (numbers(below, 400, below), [0] * 400, [below] * 400, [0, below] * 200):
            yield (below, tops)


def by_steps(wave, start):
    """The row and the errors, by the words of the point."""
    below, tops = wave
    error, bits, behind = start, "", [start]
    for top in tops:
        error = error + top
        if error >= below:
            bits, error = bits + "1", error - below
        else:
            bits = bits + "0"
        behind.append(error)
    return bits, behind


class IsWave(unittest.TestCase):
    def test_waves(self):
        for wave in itertools.chain(small_waves(), long_waves()):
            self.assertIs(is_wave(wave), True)
        for wave in [(1, []), (10 ** 400, [0, 10 ** 400, 5]), (3, [3] * 5000), (7, [0, 7])]:
            self.assertIs(is_wave(wave), True)

    def test_below(self):
        for below in [0, -1, -5, True, False, None, "3", "", [3], (3,)]:
            self.assertIs(is_wave((below, [])), False)
            self.assertIs(is_wave((below, [0])), False)
            self.assertIs(is_wave((below, [1])), False)

    def test_tops(self):
        for top in [-1, 4, 10 ** 30, True, False, None, "1", "", [1], (1,), [], ()]:
            for tops in ([top], [top, 0, 3], [0, 3, top], [0, top, 3]):
                self.assertIs(is_wave((3, tops)), False)

    def test_kinds_and_lengths(self):
        for thing in [(3, (0, 1)), (3, ()), [3, [0, 1]], [3, []], (3,), ([0],), ([],), (3, [0], 0), (3, [0], [0]),
                      (3, "01"), (3, ""), (3, None), (3, 1), (3, True), ([0], 3), ((3, [0]),), [(3, [0])]]:
            self.assertIs(is_wave(thing), False)

    def test_things_altered_at_one_place(self):
        for wave in [(3, [0, 3, 1]), (1, [1, 0]), (5, [])]:
            for thing in altered(wave):
                self.assertIs(is_wave(thing), plainly_a_wave(thing), thing)

    def test_other_things(self):
        for thing in ODD_THINGS:
            self.assertIs(is_wave(thing), False)


def plainly_a_wave(thing):
    if type(thing) is not tuple or [type(one) for one in thing] != [int, list] or thing[0] < 1:
        return False
    return all(type(top) is int and 0 <= top <= thing[0] for top in thing[1])


class Made(unittest.TestCase):
    def test_examples(self):
        self.assertEqual(made((3, [1, 1, 1, 1, 1, 1]), 0), "001001")
        self.assertEqual(errors((3, [1, 1, 1, 1, 1, 1]), 0), [0, 1, 2, 0, 1, 2, 0])
        self.assertEqual(made((3, [1, 1, 1]), 2), "100")
        self.assertEqual(made((5, [5, 0, 3, 3]), 0), "1001")
        self.assertEqual(errors((5, [5, 0, 3, 3]), 0), [0, 0, 0, 3, 1])

    def test_no_tops(self):
        for below in (1, 2, 9):
            for start in range(below):
                self.assertEqual(made((below, []), start), "")
                self.assertEqual(errors((below, []), start), [start])

    def test_tops_at_the_ends(self):
        for below in (1, 2, 9):
            for start in range(below):
                wave = (below, [0, below, 0, below])
                self.assertEqual(made(wave, start), "0101")
                self.assertEqual(errors(wave, start), [start] * 5)

    def test_the_steps_from_every_start(self):
        for wave in small_waves():
            for start in range(wave[0]):
                row, behind = by_steps(wave, start)
                self.assertEqual(made(wave, start), row)
                self.assertEqual(errors(wave, start), behind)

    def test_long_waves_from_each_end_of_the_starts(self):
        for wave in long_waves():
            for start in {0, wave[0] - 1, wave[0] // 2}:
                row, behind = by_steps(wave, start)
                self.assertEqual(made(wave, start), row)
                self.assertEqual(errors(wave, start), behind)

    def test_first_ones_are_rounded_down_sums(self):
        for wave in long_waves():
            below, tops = wave
            for start in {0, below - 1}:
                row = made(wave, start)
                for many in range(401):
                    self.assertEqual(row[:many].count("1"), (start + sum(tops[:many])) // below)

    def test_every_stretch_is_off_by_less_than_one(self):
        waves = list(small_waves()) + [(below, tops[:40]) for below, tops in long_waves()]
        for below, tops in waves:
            for start in {0, below // 2, below - 1}:
                row = made((below, tops), start)
                for one, other in stretches(len(row)):
                    off = below * row[one:other].count("1") - sum(tops[one:other])
                    self.assertLess(abs(off), below)

    def test_no_start(self):
        for tops in ([], [0], [1, 1]):
            for below in (1, 2, 9):
                for start in (-1, -below, below, below + 1, 10 ** 30, -10 ** 30):
                    with self.assertRaises(NoStart):
                        made((below, tops), start)
                    with self.assertRaises(NoStart):
                        errors((below, tops), start)

    def test_what_is_handed_in_and_told(self):
        wave = (4, [1, 3, 4, 0])
        before = copy.deepcopy(wave)
        told = errors(wave, 2)
        self.assertEqual(made(wave, 2), by_steps(wave, 2)[0])
        self.assertEqual(wave, before)
        self.assertIs(type(told), list)
        told.clear()
        self.assertEqual(errors(wave, 2), by_steps(wave, 2)[1])
        self.assertIsNot(errors(wave, 2), errors(wave, 2))
        with self.assertRaises(NoStart):
            made(wave, 4)
        self.assertEqual(wave, before)
        wave[1][0] = 4
        self.assertEqual(errors(wave, 2), by_steps(wave, 2)[1])


class MakerCase(unittest.TestCase):
    def assert_stands(self, maker, below, start, tops):
        row, behind = by_steps((below, tops), start)
        self.assertEqual(maker.bits(), row)
        self.assertEqual(maker.error(), behind[-1])


class StepByStep(MakerCase):
    def test_the_methods_stand_in_the_class(self):
        for name in ("put", "bits", "error", "back", "twin"):
            self.assertIn(name, vars(Maker))

    def test_puts(self):
        for below, tops in itertools.chain(small_waves(), long_waves()):
            for start in {0, below // 2, below - 1}:
                maker = Maker(below, start)
                row = by_steps((below, tops), start)[0]
                self.assertEqual((maker.bits(), maker.error()), ("", start))
                for place, top in enumerate(tops):
                    bit = maker.put(top)
                    self.assertIs(type(bit), int)
                    self.assertEqual(bit, int(row[place]))
                self.assert_stands(maker, below, start, tops)

    def test_back(self):
        for below, tops in itertools.chain(small_waves(), long_waves()):
            for start in {0, below - 1}:
                maker = Maker(below, start)
                for top in tops:
                    maker.put(top)
                for many in range(len(tops) - 1, -1, -1):
                    self.assertEqual(maker.back(), tops[many])
                    if many < 20:
                        self.assert_stands(maker, below, start, tops[:many])
                self.assertIsNone(maker.back())
                self.assertIsNone(maker.back())
                self.assert_stands(maker, below, start, [])

    def test_back_and_on(self):
        maker = Maker(5, 3)
        self.assertIsNone(maker.back())
        self.assertEqual([maker.put(top) for top in (0, 2, 5)], [0, 1, 1])
        self.assertEqual(maker.back(), 5)
        self.assertEqual(maker.back(), 2)
        self.assertEqual(maker.put(1), 0)
        self.assert_stands(maker, 5, 3, [0, 1])
        self.assertEqual([maker.back(), maker.back(), maker.back()], [1, 0, None])

    def test_no_start(self):
        for below in (1, 2, 9):
            for start in (-1, -below, below, below + 1, 10 ** 30):
                with self.assertRaises(NoStart):
                    Maker(below, start)

    def test_no_top_changes_nothing(self):
        for below in (1, 2, 9):
            for ahead in ([], [0], [below, 1, 0]):
                maker = Maker(below, below - 1)
                for top in ahead:
                    maker.put(top)
                for top in (-1, below + 1, -below - 1, 10 ** 30, -10 ** 30):
                    with self.assertRaises(NoTop):
                        maker.put(top)
                    self.assert_stands(maker, below, below - 1, ahead)
                maker.put(1)
                self.assert_stands(maker, below, below - 1, ahead + [1])
                self.assertEqual(maker.back(), 1)
                self.assertEqual(maker.back(), ahead[-1] if ahead else None)


class Twins(MakerCase):
    def test_a_twin_stands_likewise_with_all_steps(self):
        for below, tops in itertools.chain(small_waves(), long_waves()):
            for start in {0, below - 1}:
                maker = Maker(below, start)
                for top in tops:
                    maker.put(top)
                twin = maker.twin()
                self.assertIs(type(twin), Maker)
                self.assertIsNot(twin, maker)
                self.assert_stands(twin, below, start, tops)
                self.assertEqual([twin.back() for _ in range(len(tops) + 1)], tops[::-1] + [None])
                self.assert_stands(twin, below, start, [])
                self.assert_stands(maker, below, start, tops)

    def test_each_goes_its_own_way(self):
        maker = Maker(7, 4)
        for top in (3, 7, 2):
            maker.put(top)
        twin = maker.twin()
        twin.put(6)
        self.assert_stands(maker, 7, 4, [3, 7, 2])
        self.assert_stands(twin, 7, 4, [3, 7, 2, 6])
        maker.back()
        maker.back()
        maker.put(0)
        third = twin.twin()
        self.assert_stands(maker, 7, 4, [3, 0])
        self.assert_stands(twin, 7, 4, [3, 7, 2, 6])
        twin.back()
        self.assert_stands(third, 7, 4, [3, 7, 2, 6])
        self.assert_stands(twin, 7, 4, [3, 7, 2])
        with self.assertRaises(NoTop):
            twin.put(8)
        self.assert_stands(maker, 7, 4, [3, 0])
        self.assert_stands(third, 7, 4, [3, 7, 2, 6])

    def test_the_twin_of_a_maker_that_went_back(self):
        maker = Maker(5, 2)
        maker.put(4)
        maker.put(5)
        maker.back()
        twin = maker.twin()
        self.assert_stands(twin, 5, 2, [4])
        self.assertEqual([twin.back(), twin.back()], [4, None])
        with self.assertRaises(NoTop):
            twin.put(6)
        self.assertEqual(twin.error(), 2)
