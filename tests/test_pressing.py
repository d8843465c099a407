import copy
import itertools
import unittest

from meanbits.pressing import is_pressed, pressed, pressed_counts, unpressed
from meanbits.rows import flipped, is_row, runs
from meanbits.spans import span_of
from meanbits.steady import steady
from tests.helper import ODD_THINGS, all_rows, altered, mixed_row, numbers

STEADY = [steady(share, start, many) for share in [(70, 199), (1, 200), (123, 200), (89, 144), (1, 2), (5, 7)]
          for start in (0, share[1] - 1) for many in (1, 2, 30, 399, 400)]
TURNED = [row[:place] + "10"[int(row[place])] + row[place + 1:] for row in STEADY for place in (0, len(row) // 2)]
LONG = STEADY + [flipped(row) for row in STEADY] + TURNED + ["0" * 400, "1" * 400, mixed_row(8, 400), "0011" * 100]


def plain_step(row):
    """A step by its words: the pair of it and what comes, None where there is none."""
    if set(row) != {"0", "1"}:
        return None
    for flip, whole in ((0, row), (1, flipped(row))):
        if flip and (1, 2) not in [(bit, min(many, 2)) for bit, many in runs(row)]:
            continue
        told = runs(whole)
        if any(bit == 1 and many > 1 for bit, many in told):
            continue
        places = [place for place in range(len(whole)) if whole[place] == "1"]
        between = [other - one - 1 for one, other in zip(places, places[1:])]
        if len(set(between)) > 2 or between and max(between) - min(between) > 1:
            continue
        least = min(between) if between else 0
        step = (flip, least, places[0], len(whole) - 1 - places[-1])
        return step, "".join("0" if many == least else "1" for many in between)
    return None


def plain_pressed(row):
    steps = []
    while plain_step(row) is not None:
        step, row = plain_step(row)
        steps.append(step)
    return (steps, row)


def plain_counts(thing):
    """Bits and ones, by noughts and ones of what each step makes."""
    steps, core = thing
    noughts, ones = core.count("0"), core.count("1")
    for flip, least, head, tail in reversed(steps):
        whole_ones = noughts + ones + 1
        whole_noughts = head + noughts * least + ones * (least + 1) + tail
        noughts, ones = (whole_ones, whole_noughts) if flip else (whole_noughts, whole_ones)
    return (noughts + ones, ones)


def plain_row(thing):
    """The row of which it is told, written out."""
    steps, row = thing
    for flip, least, head, tail in reversed(steps):
        row = "0" * head + "1" + "".join("0" * (least + int(bit)) + "1" for bit in row) + "0" * tail
        row = flipped(row) if flip else row
    return row


def plainly_pressed(thing):
    """Whether a thing is told of some row of at most 10,000 bits, looked at anew."""
    if type(thing) is not tuple or [type(part) for part in thing] != [list, str]:
        return False
    steps, core = thing
    if set(core) - {"0", "1"}:
        return False
    for step in steps:
        if type(step) is not tuple or [type(number) for number in step] != [int] * 4:
            return False
        if min(step) < 0 or step[0] > 1:
            return False
    # Of a row that is told at most thirteen steps can come: each more than doubles the bits.
    if len(steps) > 20 or plain_counts(thing)[0] > 10000:
        return False
    return plain_pressed(plain_row(thing)) == thing


def is_told(thing):
    """Whether the kinds of values are those that are told."""
    steps, core = thing
    return type(thing) is tuple and type(steps) is list and is_row(core) and all(
        type(step) is tuple and [type(number) for number in step] == [int] * 4 for step in steps)


class Pressed(unittest.TestCase):
    def test_examples(self):
        self.assertEqual(pressed(""), ([], ""))
        self.assertEqual(pressed("000"), ([], "000"))
        self.assertEqual(pressed("1"), ([], "1"))
        self.assertEqual(pressed("01"), ([(0, 0, 1, 0)], ""))
        self.assertEqual(pressed("00100"), ([(0, 0, 2, 2)], ""))
        self.assertEqual(pressed("011"), ([(1, 0, 0, 2)], ""))
        self.assertEqual(pressed("101"), ([(0, 1, 0, 0)], "0"))
        self.assertEqual(pressed("0110"), ([(1, 2, 0, 0)], "0"))
        self.assertEqual(pressed("0011"), ([], "0011"))
        self.assertEqual(pressed("1010001"), ([], "1010001"))
        self.assertEqual(pressed("0100101"), ([(0, 1, 1, 0), (0, 0, 0, 1)], ""))

    def test_one_one_alone(self):
        for head in (0, 1, 2, 200):
            for tail in (0, 1, 3, 199):
                row = "0" * head + "1" + "0" * tail
                if head + tail:
                    self.assertEqual(pressed(row), ([(0, 0, head, tail)], ""))
                if head + tail > 2:
                    self.assertEqual(pressed(flipped(row)), ([(1, 0, head, tail)], ""))

    def test_rows_of_one_sign(self):
        for many in (0, 1, 2, 400):
            self.assertEqual(pressed("0" * many), ([], "0" * many))
            self.assertEqual(pressed("1" * many), ([], "1" * many))

    def test_all_short_rows(self):
        for row in all_rows(12):
            told = pressed(row)
            self.assertEqual(told, plain_pressed(row), row)
            self.assertTrue(is_told(told))
            self.assertEqual(unpressed(told), row)

    def test_long_rows(self):
        for row in LONG:
            told = pressed(row)
            self.assertEqual(told, plain_pressed(row))
            self.assertTrue(is_told(told))
            self.assertEqual(unpressed(told), row)

    def test_rows_with_a_span(self):
        most = 0
        for row in [row for row in all_rows(11) if row] + STEADY + [flipped(row) for row in STEADY]:
            if span_of(row) is not None:
                steps, core = pressed(row)
                self.assertLessEqual(len(set(core)), 1, row)
                self.assertLessEqual(2 ** len(steps), len(row) + 1)
                most = max(most, len(steps))
        self.assertGreater(most, 3)

    def test_told_lists_are_the_askers_own(self):
        told = pressed("0100101")
        told[0].clear()
        self.assertEqual(pressed("0100101"), ([(0, 1, 1, 0), (0, 0, 0, 1)], ""))
        self.assertIsNot(pressed("0100101")[0], pressed("0100101")[0])
        self.assertIsNot(pressed("")[0], pressed("")[0])


class Unpressed(unittest.TestCase):
    def test_long_rows(self):
        for share in [(70, 199), (1, 2), (1, 200), (89, 144), (100, 199), (196418, 317811)]:
            for many in (1000, 9999, 10000):
                row = steady(share, 0, many)
                for other in (row, flipped(row), row[:500] + row[400:-100]):
                    thing = pressed(other)
                    before = copy.deepcopy(thing)
                    self.assertEqual(unpressed(thing), other)
                    self.assertEqual(thing, before)
        for row in ("0" * 10000, "1" * 10000, mixed_row(2, 10000), "0" * 5000 + "1" + "0" * 4999):
            self.assertEqual(unpressed(pressed(row)), row)


class IsPressed(unittest.TestCase):
    def assert_pressed(self, thing, wanted):
        before = copy.deepcopy(thing)
        self.assertIs(is_pressed(thing), wanted, thing)
        self.assertEqual(thing, before)

    def test_what_pressed_tells(self):
        for row in all_rows(10) + LONG:
            self.assert_pressed(pressed(row), True)

    def test_rows_of_just_so_many_bits(self):
        for make in (lambda many: "0" * many, lambda many: "1" * many, lambda many: steady((70, 199), 7, many),
                     lambda many: flipped(steady((1, 200), 7, many)), lambda many: steady((1, 2), 0, many),
                     lambda many: mixed_row(3, many), lambda many: "0" * (many - 1) + "1",
                     lambda many: steady((196418, 317811), 0, many)):
            for many, wanted in ((9999, True), (10000, True), (10001, False), (20000, False)):
                self.assert_pressed(pressed(make(many)), wanted)

    def test_all_steps_of_small_numbers(self):
        found = 0
        for core in ["", "0", "1", "00", "01", "11", "0011", "000"]:
            for step in itertools.product((0, 1), range(4), range(5), range(5)):
                thing = ([step], core)
                wanted = plainly_pressed(thing)
                self.assert_pressed(thing, wanted)
                found += wanted
        self.assertGreater(found, 100)

    def test_all_two_steps_of_small_numbers(self):
        found = 0
        steps = list(itertools.product((0, 1), range(3), range(3), range(3)))
        for one in steps:
            for other in steps:
                for core in ["", "0"]:
                    thing = ([one, other], core)
                    wanted = plainly_pressed(thing)
                    self.assert_pressed(thing, wanted)
                    found += wanted
        self.assertGreater(found, 100)

    def test_altered_at_one_place(self):
        for row in ["", "0", "1", "01", "011", "101", "0110", "0011", "0100101", "00100100",
                    "1101101011011"] + LONG[::9]:
            told = pressed(row)
            self.assert_pressed(told, True)
            for other in altered(told):
                self.assert_pressed(other, plainly_pressed(other))

    def test_numbers_otherwise(self):
        steps, core = told = pressed(steady((70, 199), 0, 400))
        self.assertGreater(len(steps), 2)
        for place, step in enumerate(steps):
            for part, number in enumerate(step):
                for other in (number + 1, number - 1, -number - 1, 10 ** 9, 10 ** 100, -10 ** 100, True, False,
                              str(number),
                              None, [number], (number,), ""):
                    changed = step[:part] + (other,) + step[part + 1:]
                    thing = (steps[:place] + [changed] + steps[place + 1:], core)
                    self.assert_pressed(thing, plainly_pressed(thing))
        self.assert_pressed(told, True)

    def test_steps_otherwise(self):
        for row in [steady((70, 199), 0, 400), steady((89, 144), 3, 400), flipped(steady((5, 17), 3, 400))]:
            steps, core = pressed(row)
            for place in range(len(steps)):
                for thing in ((steps[:place] + steps[place + 1:], core), (steps[:place + 1] + steps[place:], core),
                              (steps[place:], core), (steps[:place], core)):
                    self.assert_pressed(thing, plainly_pressed(thing))
                for other in range(place):
                    changed = list(steps)
                    changed[place], changed[other] = steps[other], steps[place]
                    self.assert_pressed((changed, core), plainly_pressed((changed, core)))

    def test_cores_otherwise(self):
        for row in LONG[::3] + ["0110", "0011", "01"]:
            steps, core = pressed(row)
            for other in (core + "0", core + "1", core[1:], core[:-1], flipped(core), "0" + core, core + "2",
                          core + " ",
                          core + "\n", core.replace("0", "x"), list(core), tuple(core), None, 0, True, [core], (core,)):
                self.assert_pressed((steps, other), plainly_pressed((steps, other)))

    def test_a_core_that_can_be_pressed(self):
        self.assert_pressed(([], "01"), False)
        self.assert_pressed(([(0, 1, 0, 0)], "01"), False)
        self.assert_pressed(([], "0011"), True)

    def test_kinds(self):
        steps, core = [(0, 1, 0, 0)], "0"
        self.assert_pressed((steps, core), True)
        for thing in [[steps, core], (tuple(steps), core), ([list(steps[0])], core), (steps[0], core), (core, steps),
                      (steps,), (core,), (steps, core, core), (steps, core, None), ((steps, core),), [(steps, core)],
                      ([steps], core), ([(0, 1, 0)], core), ([(0, 1, 0, 0, 0)], core), ([()], core), ([None], core),
                      ([(0, 1, 0, 0), None], core), (None, core), ("", core), ("0100", core), (steps, None)]:
            self.assert_pressed(thing, False)

    def test_very_great_things(self):
        for thing in [([(0, 10 ** 9, 0, 0)], "0"), ([(0, 1, 10 ** 9, 0)], "0"), ([(0, 1, 0, 10 ** 300)], "0"),
                      ([(0, 0, 10 ** 9, 0)], ""), ([(0, 10 ** 9, 10 ** 9, 10 ** 9)] * 60, "0" * 400),
                      ([(0, 0, 0, 0)] * 3000, ""), ([(0, 0, 0, 1)] * 3000, ""), ([(0, 1, 0, 0)] * 3000, "0"),
                      ([(1, 1, 0, 0)] * 3000, "0"), ([(0, 0, 0, 0)] * 3000, "0")]:
            self.assert_pressed(thing, False)
        self.assert_pressed(([(0, 0, 9998, 1)], ""), True)
        self.assert_pressed(([(0, 0, 9998, 2)], ""), False)

    def test_other_things(self):
        for thing in ODD_THINGS + [([], ""), ([], "0"), ([], "2"), ((), ""), ([], []), ([[]], "")]:
            self.assert_pressed(thing, plainly_pressed(thing))
        self.assert_pressed(([], ""), True)


class PressedCounts(unittest.TestCase):
    def assert_counts(self, thing, wanted):
        before = copy.deepcopy(thing)
        told = pressed_counts(thing)
        self.assertEqual(told, wanted, thing)
        self.assertEqual([type(told)] + [type(number) for number in told], [tuple, int, int])
        self.assertEqual(thing, before)

    def test_of_what_pressed_tells(self):
        for row in all_rows(10) + LONG + [steady((196418, 317811), 0, 10000)]:
            self.assert_counts(pressed(row), (len(row), row.count("1")))

    def test_steps_of_any_small_numbers(self):
        for seed in range(300):
            steps = [tuple([numbers(seed + at, 1, 1)[0]] + numbers(seed * 7 + at, 3, 2)) for at in range(seed % 5)]
            thing = (steps, mixed_row(seed, seed % 7))
            row = plain_row(thing)
            self.assert_counts(thing, (len(row), row.count("1")))

    def test_steps_of_great_numbers(self):
        for many in (1, 2, 7, 59, 60):
            for core in ("", "0", "1", mixed_row(4, 400), "1" * 400):
                for flips in ([0] * many, [1] * many, numbers(many, many, 1)):
                    steps = [(flip, *numbers(many + at, 3, 10 ** 9)) for at, flip in enumerate(flips)]
                    self.assert_counts((steps, core), plain_counts((steps, core)))
                    steps = [(flip, 10 ** 9, 10 ** 9, 10 ** 9) for flip in flips]
                    self.assert_counts((steps, core), plain_counts((steps, core)))
                    self.assert_counts(([(flip, 0, 0, 0) for flip in flips], core),
                                       plain_counts(([(flip, 0, 0, 0) for flip in flips], core)))

    def test_counts_may_be_very_great(self):
        steps = [(0, 10 ** 9, 0, 0)] * 60
        bits, ones = pressed_counts((steps, "0"))
        self.assertGreater(bits, 10 ** 500)
        self.assertLess(ones, bits)
