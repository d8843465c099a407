"""What is promised over the whole program: its names, and each promise of the first point at some rows and waves."""

import importlib
import inspect
import unittest
from fractions import Fraction

from meanbits import errors
from meanbits.adding import added
from meanbits.bundles import levels, spread
from meanbits.dealing import dealt, weighed
from meanbits.maker import made
from meanbits.mending import mended
from meanbits.mixing import mixed, mixed_bound
from meanbits.parting import pieces
from meanbits.pressing import pressed, unpressed
from meanbits.products import product, product_share
from meanbits.reading import read, read_exactly, twins
from meanbits.rounds import period, round_of
from meanbits.rows import turned
from meanbits.sheet import run
from meanbits.sievebounds import peak, worst_wave
from meanbits.sieves import sieved, weights
from meanbits.steady import steady
from meanbits.stretches import excess, no_better, worst
from meanbits.towers import fold, tower, tower_sum
from meanbits.twostep import closed, two_bound, two_made, two_states
from tests.helper import all_shares, mixed_row, numbers, stretches

# Each name of the interface with the number of its arguments.
INTERFACE = {
    "parts": "part_of 2, sum_of 1, times 2, is_less 2, part_text 1, part_in 1",
    "rows": "is_row 1, ones 1, ones_in 3, flipped 1, turned 2, mean_of 1, runs 1",
    "maker": "is_wave 1, made 2, errors 2, Maker 2",
    "steady": "steady 3, count 3, error_behind 3, bit_at 3, one_at 3",
    "stretches": "excess 4, offs 2, worst 2, no_better 2",
    "rounds": "round_of 2, rounds 1, starts_of 2, whole_rounds 1, period 1",
    "spans": "span_of 1, uneven 1, shows_uneven 2, common_span 1",
    "reading": "simplest_in 2, read 1, nearest 2, read_exactly 2, twins 1",
    "sieves": "weights 1, sieved 2, readings 2",
    "sievebounds": "peak 1, worst_wave 3, shows_worst_wave 4, sure_most 1, read_by_sieve 3",
    "towers": "fold 2, tower 2, tower_sum 1, tower_sure 2, read_by_tower 2",
    "twostep": "two_made 1, two_states 1, closed 4, shows_closed 5, two_bound 1",
    "mixing": "mixed 3, mixed_bound 3",
    "adding": "added 2",
    "products": "product 2, product_share 2, product_round 2",
    "bundles": "spread 2, levels 1",
    "dealing": "dealt 2, weighed 2, weigh_bound 1, worst_levels 1, shows_worst_levels 2",
    "joining": "goes_on 3, gap 3, sewn 3",
    "parting": "pieces 1, shows_pieces 2, numbers_of 1",
    "pressing": "pressed 1, is_pressed 1, unpressed 1, pressed_counts 1",
    "faults": "fault_cost 3",
    "mending": "mended 2",
    "sheet": "run 1",
}
REFUSALS = ["BadPart", "NoPlace", "NoStart", "NoTop", "NoShare", "TooShort", "TooMuch", "UnlikeRows", "BadSheet"]
WAVES = [(below, numbers(seed, 60, below)) for seed, below in enumerate([1, 2, 3, 7, 10, 199, 10 ** 6])]


class Interface(unittest.TestCase):
    def test_each_name_takes_its_arguments(self):
        for module, names in INTERFACE.items():
            for name, many in (text.split(" ") for text in names.split(", ")):
                asked = getattr(importlib.import_module("meanbits." + module), name)
                parameters = inspect.signature(asked).parameters.values()
                self.assertEqual(len(parameters), int(many), name)
                self.assertEqual({one.kind for one in parameters}, {inspect.Parameter.POSITIONAL_OR_KEYWORD}, name)

    def test_the_methods_of_a_maker_are_its_own(self):
        maker = importlib.import_module("meanbits.maker").Maker
        for name in ("put", "bits", "error", "back", "twin"):
            self.assertIn(name, vars(maker))

    def test_refusals_stand_straight_under_one_class(self):
        self.assertEqual(errors.BitsError.__bases__, (ValueError,))
        for name in REFUSALS:
            self.assertEqual(getattr(errors, name).__bases__, (errors.BitsError,))


class OneCarriedError(unittest.TestCase):
    def test_every_stretch_is_off_by_less_than_one(self):
        for below, tops in WAVES:
            for start in {0, below // 2, below - 1}:
                most, most_stretch, least, least_stretch = worst(made((below, tops), start), (below, tops))
                self.assertLess(most, below)
                self.assertLess(-least, below)

    def test_no_row_does_better_over_a_round(self):
        for share in all_shares(9):
            for seed in range(5):
                for row in (mixed_row(seed, share[1]), mixed_row(seed, 30), steady(share, seed % share[1], share[1])):
                    one, other = no_better(row, share)
                    off = excess(row, (share[1], [share[0]] * len(row)), one, other)
                    self.assertGreaterEqual(abs(off), share[1] - 1)

    def test_a_fraction_goes_round_with_its_below(self):
        for share in all_shares(12):
            for start in range(share[1]):
                once = round_of(share, start)
                self.assertEqual((len(once), once.count("1")), (share[1], share[0]))
                self.assertEqual(steady(share, start, 3 * share[1]), once * 3)
                self.assertEqual(period(once * 3), share[1])


class Exactly(unittest.TestCase):
    def test_behind_twice_as_many_bits_less_two(self):
        for most in range(2, 12):
            for share in all_shares(most):
                for start in range(share[1]):
                    self.assertEqual(read_exactly(steady(share, start, 2 * most - 2), most), share)

    def test_not_behind_one_bit_fewer(self):
        for most in range(2, 40):
            row, one, other = twins(most)
            self.assertEqual(len(row), 2 * most - 3)
            self.assertNotEqual(one, other)
            for top, below in (one, other):
                self.assertLessEqual(below, most)
                self.assertIn(row, [steady((top, below), start, len(row)) for start in range(below)])


class TowersAndTwoErrors(unittest.TestCase):
    def test_towers_tell_sums_of_sums_rounded_down(self):
        for below, tops in WAVES:
            for many in range(1, 5):
                for steps in (0, 1, 17, 60):
                    rows = tower((below, tops[:steps]), many)
                    self.assertEqual(tower_sum(rows), fold(tops[:steps], many) // below)

    def test_two_errors_keep_their_bound_or_are_told_to_break_it(self):
        kinds = set()
        for below in range(1, 7):
            for low, high in [(0, below), (below // 2, below // 2), (below // 3, below - below // 3)]:
                kind, told = closed(below, low, high, 24)
                kinds.add(kind)
                if kind == "closed":
                    tops = [low + top for top in numbers(below, 60, high - low)]
                    most, _, least, _ = worst(two_made((below, tops)), (below, tops))
                    self.assertLessEqual(max(most, -least), two_bound(told))
                else:
                    self.assertTrue(all(low <= top <= high for top in told))
                    self.assertGreater(max(abs(error) for error in two_states((below, told))[-1]), 24)
        self.assertEqual(kinds, {"closed", "beyond"})


class SievesAndReckoning(unittest.TestCase):
    def off(self, lengths, below, start, tops):
        heavy = weights(lengths)
        return below * sieved(made((below, tops), start), lengths)[0] - sum(map(int.__mul__, heavy, tops))

    def test_sieves_keep_their_bound_and_an_input_comes_to_it(self):
        for lengths in ([1], [4], [2, 3], [5, 5, 5], [30, 7, 2, 9]):
            for below, tops in WAVES:
                bound = (below - 1) * peak(lengths)
                self.assertLessEqual(abs(self.off(lengths, below, below // 2, tops[:len(weights(lengths))])), bound)
                self.assertEqual(self.off(lengths, below, *worst_wave(lengths, below, 1)), bound)
                self.assertEqual(self.off(lengths, below, *worst_wave(lengths, below, 0)), -bound)

    def test_mixtures_sums_and_products_keep_theirs(self):
        for one, other in [((1, 3), (2, 5)), ((1, 2), (1, 2)), ((3, 7), (1, 9)), ((0, 1), (1, 1))]:
            first, second = steady(one, 0, 60), steady(other, other[1] - 1, 60)
            mixture = mixed([first, second], [2, 3], 7)
            bound = mixed_bound([(1, 1), (1, 1)], [2, 3], 7)
            share = (2 * Fraction(*one) + 3 * Fraction(*other)) / 7
            total, left, most = added(first, second)
            self.assertLessEqual(most, 1)
            self.assertEqual(total.count("1") + left, first.count("1") + second.count("1"))
            both, both_share = product(first, second), Fraction(*product_share(one, other))
            for start, end in stretches(60):
                self.assertLess(abs(mixture[start:end].count("1") - share * (end - start)), Fraction(*bound))
                self.assertLess(abs(both[start:end].count("1") - both_share * (end - start)), Fraction(*other) + 1)


class Bundles(unittest.TestCase):
    def test_bundles_together_are_off_by_less_than_one(self):
        for below, tops in WAVES:
            for many in (1, 2, 3, 8):
                together = levels(spread((below, tops), many))
                for one, other in stretches(60):
                    self.assertLess(abs(below * sum(together[one:other]) - many * sum(tops[one:other])), below)

    def test_dealt_rows_each(self):
        for many in (1, 2, 5, 8):
            told = numbers(many, 60, many)
            rows = dealt(told, many)
            self.assertEqual(weighed(rows, [1] * many), told)
            for one, other in stretches(60):
                for row in rows:
                    self.assertLess(abs(many * row[one:other].count("1") - sum(told[one:other])), many)


class PressedAndTurned(unittest.TestCase):
    def test_what_is_pressed_is_read_back_the_same(self):
        for row in [mixed_row(seed, 7 * seed) for seed in range(30)] + [steady((70, 199), 3, 400)]:
            self.assertEqual(unpressed(pressed(row)), row)

    def test_a_turned_bit_is_found(self):
        for most in (1, 3, 6):
            many = max(3, 6 * most - 4)
            for share in all_shares(most):
                row = steady(share, share[1] // 2, many)
                for place in range(many):
                    self.assertEqual(mended(turned(row, [place]), most), ("turned", place, share))

    def test_rows_parted(self):
        row = steady((2, 5), 0, 60) + steady((1, 9), 0, 60)
        self.assertEqual(len(pieces(row)), 2)
        self.assertIsNone(read(row))


class Sheets(unittest.TestCase):
    def test_a_sheet_of_all_this(self):
        text = "share fifth 2/5\nmake a fifth 0 40\nturn b a 7\nmend b 5\nread a\npress a\nones b"
        row = steady((2, 5), 0, 40)
        self.assertEqual(run(text), [
            row, turned(row, [7]), "turned 7 2/5", "2/5", "0:1:2:0 0:1:1:1 000000", "15 of 40"])
