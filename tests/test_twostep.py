import copy
import functools
import itertools
import unittest

from meanbits.twostep import closed, shows_closed, two_bound, two_made, two_states
from tests.helper import ODD_THINGS, altered, numbers, stretches

RANGES = [(below, low, high) for below in range(1, 7) for low in range(below + 1) for high in range(low, below + 1)]
MOST_LIMIT = 24


def by_steps(wave):
    """The row and the states, by the words of the point."""
    below, tops = wave
    one, other, row, states = 0, 0, "", [(0, 0)]
    for top in tops:
        v = top + (2 * one - other)
        bit = int(v + v >= below)
        one, other = v - below * bit, one
        row += str(bit)
        states.append((one, other))
    return row, states


def following(below, state, top):
    v = top + 2 * state[0] - state[1]
    return (v - below if 2 * v >= below else v, state[0])


def beyond(state, limit):
    return abs(state[0]) > limit or abs(state[1]) > limit


@functools.cache
def reached(below, low, high, limit):
    """All states that come, None where one is beyond; and the fewest tops to one beyond."""
    layer, known, many = {(0, 0)}, {(0, 0)}, 0
    while layer:
        layer = {following(below, state, top) for state in layer for top in range(low, high + 1)}
        many += 1
        if any(beyond(state, limit) for state in layer):
            return None, many
        layer -= known
        known |= layer
    return known, None


@functools.cache
def just_suffices(below, low, high):
    """The least limit within which the range is closed, None where 24 is not enough."""
    for limit in range(1, MOST_LIMIT + 1):
        if reached(below, low, high, limit)[0] is not None:
            return limit
    return None


def plainly_shows(below, low, high, limit, thing):
    """Whether a thing shows it, looked at anew."""
    if type(thing) is not tuple or len(thing) != 2 or type(thing[0]) is not str or type(thing[1]) is not list:
        return False
    word, shown = thing
    if word == "closed":
        kinds = all(type(state) is tuple and [type(error) for error in state] == [int, int] for state in shown)
        if not kinds or any(beyond(state, limit) for state in shown):
            return False
        if any(shown.count(state) != 1 for state in shown + [(0, 0)]):
            return False
        return all(following(below, state, top) in shown for state in shown for top in range(low, high + 1))
    if word == "beyond":
        if not shown or any(type(top) is not int or not low <= top <= high for top in shown):
            return False
        passed = [beyond(state, limit) for state in by_steps((below, shown))[1]]
        return passed.index(True) == len(shown) if True in passed else False
    return False


class TwoMade(unittest.TestCase):
    def test_examples(self):
        self.assertEqual(two_made((2, [1] * 8)), "10011001")
        self.assertEqual(two_states((2, [1] * 4)), [(0, 0), (-1, 0), (-1, -1), (0, -1), (0, 0)])
        self.assertEqual(two_made((4, [1] * 4)), "0100")
        self.assertEqual(two_states((4, [1] * 4)), [(0, 0), (1, 0), (-1, 1), (-2, -1), (-2, -2)])

    def test_no_tops(self):
        for below in (1, 2, 6, 10 ** 6):
            self.assertEqual(two_made((below, [])), "")
            self.assertEqual(two_states((below, [])), [(0, 0)])

    def test_one_top_alone(self):
        for below in range(1, 9):
            for top in range(below + 1):
                bit = 1 if 2 * top >= below else 0
                self.assertEqual(two_made((below, [top])), str(bit))
                self.assertEqual(two_states((below, [top])), [(0, 0), (top - bit * below, 0)])

    def test_the_ends_by_turns(self):
        for below in (1, 2, 5, 10 ** 6):
            self.assertEqual(two_made((below, [0, below] * 200)), "01" * 200)
            self.assertEqual(two_states((below, [below, 0] * 200)), [(0, 0)] * 401)

    def waves(self):
        for below in range(1, 4):
            for many in range(5):
                for tops in itertools.product(range(below + 1), repeat=many):
                    yield (below, list(tops))
        for below in (1, 2, 6, 7, 10 ** 6):
            yield (below, numbers(below, 400, below))
            yield (below, [below // 3] * 400)
            yield (below, [1, below] * 200)

    def test_the_steps(self):
        for wave in self.waves():
            row, states = by_steps(wave)
            self.assertEqual(two_made(wave), row)
            told = two_states(wave)
            self.assertEqual(told, states)
            self.assertEqual({type(told), *[type(state) for state in told]}, {list, tuple})

    def test_the_excess_of_each_beginning(self):
        for wave in self.waves():
            below, tops = wave
            row, states = two_made(wave), two_states(wave)
            for place, (one, other) in enumerate(states):
                self.assertEqual(below * row[:place].count("1") - sum(tops[:place]), other - one)

    def test_what_is_handed_in_and_told(self):
        wave = (5, [1, 2, 3, 4])
        before = copy.deepcopy(wave)
        told = two_states(wave)
        wanted = list(told)
        self.assertEqual(two_made(wave), by_steps(wave)[0])
        self.assertEqual(wave, before)
        told.clear()
        self.assertEqual(two_states(wave), wanted)
        self.assertIsNot(two_states(wave), two_states(wave))


class Closed(unittest.TestCase):
    def test_examples(self):
        self.assertEqual(closed(2, 1, 1, 1), ("closed", [(-1, -1), (-1, 0), (0, -1), (0, 0)]))
        self.assertEqual(closed(3, 0, 0, 1), ("closed", [(0, 0)]))
        self.assertEqual(closed(4, 2, 2, 1), ("beyond", [2]))

    def assert_closed(self, below, low, high, limit):
        word, shown = told = closed(below, low, high, limit)
        states, fewest = reached(below, low, high, limit)
        self.assertEqual((type(told), type(shown)), (tuple, list))
        if states is None:
            self.assertEqual(word, "beyond")
            self.assertEqual(len(shown), fewest)
            self.assertTrue(plainly_shows(below, low, high, limit, told))
        else:
            self.assertEqual(told, ("closed", sorted(states)))
        self.assertIs(shows_closed(below, low, high, limit, told), True)

    def test_every_range_and_limit(self):
        for below, low, high in RANGES:
            for limit in range(1, MOST_LIMIT + 1):
                self.assert_closed(below, low, high, limit)

    def test_the_limit_that_just_suffices(self):
        found = 0
        for below, low, high in RANGES:
            limit = just_suffices(below, low, high)
            if limit is not None:
                self.assertEqual(closed(below, low, high, limit)[0], "closed")
                errors = [abs(error) for state in closed(below, low, high, limit)[1] for error in state]
                self.assertLessEqual(max(errors), limit)
                if limit > 1:
                    self.assertEqual(max(errors), limit)
                    self.assertEqual(closed(below, low, high, limit - 1)[0], "beyond")
                    found += 1
        self.assertGreater(found, 10)

    def test_fewest_by_all_tops(self):
        for below, low, high, limit in [(2, 0, 1, 1), (2, 0, 2, 2), (3, 0, 3, 3), (3, 1, 2, 1), (4, 1, 3, 4)]:
            tops = closed(below, low, high, limit)[1]
            for many in range(1, len(tops)):
                for fewer in itertools.product(range(low, high + 1), repeat=many):
                    self.assertFalse(plainly_shows(below, low, high, limit, ("beyond", list(fewer))))

    def test_somewhat_beyond_the_bounds(self):
        for below, low, high, limit in [(7, 2, 5, 30), (7, 3, 4, 30), (10, 0, 10, 40)]:
            self.assert_closed(below, low, high, limit)

    def test_told_lists_are_the_askers_own(self):
        for question in [(2, 1, 1, 1), (2, 0, 1, 3)]:
            told = closed(*question)
            wanted = copy.deepcopy(told)
            told[1].clear()
            self.assertEqual(closed(*question), wanted)
            self.assertIsNot(closed(*question)[1], closed(*question)[1])
            shown = copy.deepcopy(wanted)
            self.assertIs(shows_closed(*question, shown), True)
            self.assertEqual(shown, wanted)


class ShowsClosed(unittest.TestCase):
    def assert_shows(self, question, thing, wanted):
        self.assertIs(shows_closed(*question, thing), wanted, (question, thing))

    def test_states_in_any_order(self):
        for question in [(2, 1, 1, 1), (3, 1, 2, 2), (5, 2, 3, 4)]:
            states = closed(*question)[1]
            for cut in range(len(states)):
                self.assert_shows(question, ("closed", states[cut:] + states[:cut]), True)
            self.assert_shows(question, ("closed", states[::-1]), True)
        for states in itertools.permutations(closed(2, 1, 1, 1)[1]):
            self.assert_shows((2, 1, 1, 1), ("closed", list(states)), True)

    def test_more_states_than_come(self):
        # Unlike states from which no top leads out show it, though they do not all come.
        question = (4, 0, 0, 3)
        self.assertEqual(closed(*question), ("closed", [(0, 0)]))
        for more in ([(1, 1)], [(-1, -1)], [(1, 1), (1, -3)], [(-1, -1), (1, -3), (1, 1)]):
            self.assert_shows(question, ("closed", [(0, 0)] + more), True)
            self.assert_shows(question, ("closed", more + [(0, 0)]), True)
        self.assert_shows(question, ("closed", [(0, 0), (1, -3)]), False)
        self.assert_shows((4, 0, 1, 3), ("closed", [(0, 0), (1, 1)]), False)
        states = closed(3, 1, 2, 2)[1]
        self.assert_shows((3, 1, 1, 2), ("closed", states), True)
        self.assert_shows((3, 2, 2, 2), ("closed", states), True)
        self.assert_shows((3, 1, 3, 2), ("closed", states), False)

    def test_either_error_beyond_the_limit(self):
        for states, limit in [([(0, 0), (2, 2)], 2), ([(0, 0), (-2, -2)], 2), ([(0, 0), (1, 1), (1, -5)], 5)]:
            self.assert_shows((6, 0, 0, limit), ("closed", states), True)
            self.assert_shows((6, 0, 0, limit - 1), ("closed", states), False)

    def test_the_limit(self):
        states = closed(5, 2, 3, 4)[1]
        self.assert_shows((5, 2, 3, 4), ("closed", states), True)
        self.assert_shows((5, 2, 3, 9), ("closed", states), True)
        self.assert_shows((5, 2, 3, 3), ("closed", states), False)
        self.assert_shows((5, 1, 3, 4), ("closed", states), False)
        self.assert_shows((5, 2, 4, 4), ("closed", states), False)

    def test_closed_without_the_first_state(self):
        self.assert_shows((2, 1, 1, 1), ("closed", []), False)
        # From (1, 1) the top 0 leads to (1, 1), but that does not come of (0, 0).
        self.assertEqual(following(4, (1, 1), 0), (1, 1))
        self.assert_shows((4, 0, 0, 1), ("closed", [(1, 1)]), False)
        self.assert_shows((4, 0, 0, 1), ("closed", [(0, 0), (1, 1)]), True)

    def test_one_state_left_out_or_told_twice(self):
        for question in [(2, 1, 1, 1), (3, 1, 2, 2), (6, 2, 3, 7)]:
            states = closed(*question)[1]
            for place, state in enumerate(states):
                self.assert_shows(question, ("closed", states[:place] + states[place + 1:]), False)
                self.assert_shows(question, ("closed", states + [state]), False)
                self.assert_shows(question, ("closed", [state] + states), False)

    def test_tops_that_are_not_the_fewest(self):
        question = (2, 0, 1, 1)
        found = 0
        for many in range(1, 9):
            for tops in itertools.product((0, 1), repeat=many):
                thing = ("beyond", list(tops))
                wanted = plainly_shows(*question, thing)
                self.assert_shows(question, thing, wanted)
                found += wanted and many > len(closed(*question)[1])
        self.assertGreater(found, 0)

    def test_an_error_beyond_ahead_of_the_last(self):
        for question in [(2, 0, 1, 1), (4, 1, 3, 24), (6, 0, 6, 10)]:
            tops = closed(*question)[1]
            for more in range(question[1], question[2] + 1):
                self.assert_shows(question, ("beyond", tops + [more]), False)
                self.assert_shows(question, ("beyond", tops + [more] + tops), False)
            self.assert_shows(question, ("beyond", tops[:-1]), False)
            self.assert_shows(question, ("beyond", []), False)

    def test_tops_outside_the_range(self):
        tops = closed(6, 0, 6, 10)[1]
        for place in range(len(tops)):
            for top in (-1, 7, 10 ** 30, -10 ** 30):
                self.assert_shows((6, 0, 6, 10), ("beyond", tops[:place] + [top] + tops[place + 1:]), False)
        self.assert_shows((6, min(tops) + 1, 6, 10), ("beyond", tops), False)
        self.assert_shows((6, 0, max(tops) - 1, 10), ("beyond", tops), False)
        # Beyond at once, but by a top that the range does not have.
        self.assert_shows((6, 0, 1, 2), ("beyond", [3]), False)
        self.assert_shows((6, 0, 3, 2), ("beyond", [3]), True)

    def test_things_altered_at_one_place(self):
        for question in [(2, 1, 1, 1), (3, 1, 2, 2), (1, 0, 1, 1), (2, 0, 1, 1), (2, 0, 2, 2), (4, 1, 3, 6)]:
            told = closed(*question)
            for thing in altered(told):
                before = copy.deepcopy(thing)
                self.assert_shows(question, thing, plainly_shows(*question, thing))
                self.assertEqual(thing, before)

    def test_other_things(self):
        for question in [(2, 1, 1, 1), (2, 0, 1, 1), (1, 0, 1, 1)]:
            for thing in ODD_THINGS:
                self.assert_shows(question, thing, False)

    def test_words(self):
        states = closed(2, 1, 1, 1)[1]
        for word in ["beyond", "Closed", "", "close", None, True, 0, ["closed"], ("closed",)]:
            self.assert_shows((2, 1, 1, 1), (word, states), False)
        tops = closed(2, 0, 1, 1)[1]
        for word in ["closed", "Beyond", "", None, True, 1, ["beyond"], ("beyond",)]:
            self.assert_shows((2, 0, 1, 1), (word, tops), False)


class TwoBound(unittest.TestCase):
    def test_one_state(self):
        for state in [(0, 0), (3, -4), (-7, 7)]:
            self.assertEqual(two_bound([state]), 0)
            self.assertEqual(two_bound([state, state]), 0)

    def test_several_in_any_order_some_twice(self):
        states = [(0, 0), (2, -1), (-1, 2), (5, 5), (2, -1)]
        for order in itertools.permutations(states):
            self.assertEqual(two_bound(list(order)), 6)
        self.assertEqual(two_bound([(1, 3), (0, 1)]), 1)
        self.assertEqual(two_bound([(3, 1), (1, 0)]), 1)

    def test_what_is_handed_in_stays(self):
        states = [(2, 0), (0, 0), (0, 3)]
        self.assertEqual(two_bound(states), 5)
        self.assertEqual(states, [(2, 0), (0, 0), (0, 3)])

    def test_no_stretch_is_off_by_more(self):
        for below, low, high in RANGES:
            limit = just_suffices(below, low, high)
            if limit is None:
                continue
            bound = two_bound(closed(below, low, high, limit)[1])
            for seed in range(3):
                tops = [low + top for top in numbers(seed, 60, high - low)]
                row = two_made((below, tops))
                for one, other in stretches(60):
                    off = below * row[one:other].count("1") - sum(tops[one:other])
                    self.assertLessEqual(abs(off), bound)
