import unittest
from copy import deepcopy
from itertools import product
from random import Random

from swayhalls.beats import history, lean
from swayhalls.errors import NotEven
from swayhalls.halls import Hall
from swayhalls.kinds import middles, mirror, word_of
from swayhalls.scales import scales_of
from swayhalls.worth import bound_of, gains, range_of, shows_falls, unlike_beats, worth_of, worths
from tests.draws import draw_even, draw_held, draw_hall, draw_mirrored, draw_past, draw_standing
from tests.plain import history_of, next_of, pasts_of, pull_of, scales_told, weight_sum, worth_by_words
from tests.samples import THINGS, put

NEITHER = Hall([[0, 1], [0, 0]], [[1], [1]])
NEITHER_BY_MEMORY = Hall([[0, 1], [1, 0]], [[1], [1]], [1, 2])
NEITHER_BY_STEPS = Hall([[0, 1], [-1, 0]], [[1], [1]])
# two who are turned to each other; its middles are 1 and -1
MIRRORED = Hall([[0, 1], [-1, 0]], [[1], [0]])
# by scales 3 and 2; its middles are 4 and 3
PAIR = Hall([[0, 2], [3, 0]], [[2], [1, 4]])


def gains_by_words(hall, window, standing):
    scales, tops, told = scales_told(hall), hall.tops(), []
    first = window[0] if word_of(hall) == "even" else mirror(hall, window[0])
    for i in range(len(hall)):
        pull = 2 * pull_of(hall, window[1:], i) - middles(hall)[i]
        worths_of = [(2 * x - tops[i]) * pull - 2 * weight_sum(hall, i, x) for x in (standing[i], first[i])]
        told.append(scales[i] * (worths_of[0] - worths_of[1]))
    return tuple(told)


def range_by_words(hall):
    scales, strings, tops, k = scales_told(hall), hall.strings(), hall.tops(), len(hall.memory())
    slack = low = high = 0
    for r in range(1, k + 1):
        for i, j in product(range(len(hall)), repeat=2):
            slack += (k + 1 - r) * abs(hall.memory()[r - 1]) * scales[i] * abs(strings[i][j]) * tops[i] * tops[j]
    for i in range(len(hall)):
        sums = [2 * weight_sum(hall, i, posture) for posture in range(tops[i] + 1)]
        low += (k + 1) * scales[i] * min(sums)
        high += (k + 1) * scales[i] * max(sums)
    return low - slack, high + slack


def unlike_by_words(hall, past, held, many):
    """The unlike beats among so many, with their falls."""
    rows, k, told = history_of(hall, past, many, held), len(hall.memory()), []
    for beat in range(k + 1, len(rows)):
        ahead = rows[beat - k - 1]
        if rows[beat] != (ahead if word_of(hall) == "even" else mirror(hall, ahead)):
            fall = worth_by_words(hall, rows[beat - k - 1:beat]) - worth_by_words(hall, rows[beat - k:beat + 1])
            told.append((beat, fall))
    return told


def drawn(seed, many):
    """Even and mirrored halls by turns, with a past and who is held."""
    draw = Random(seed)
    for at in range(many):
        hall = draw_even(draw) if at % 2 else draw_mirrored(draw)
        yield draw, hall, draw_past(draw, hall), draw_held(draw, hall) if at % 2 else draw.choice(((), []))


def draw_window(draw, hall):
    return [draw_standing(draw, hall)] + draw_past(draw, hall)


class Worths(unittest.TestCase):
    def test_by_hand(self):
        # weights: of person 0 4 - 1 - 4 = -1; of person 1 2 - 1 - 3 = -2 and 8 - 1 - 3 = 4
        self.assertEqual(middles(PAIR), (4, 3))
        self.assertEqual(scales_of(PAIR), [3, 2])
        # middled (0, 0) is (-1, -2): 3 * 2 * (-1) * (-2) + 2 * 3 * (-2) * (-1) = 24
        self.assertEqual(worth_of(PAIR, [(0, 0), (0, 0)]), -24)
        self.assertEqual(worth_of(PAIR, [(1, 2), (1, 2)]), 2 * (3 * 2 * -1 + 2 * 2 * 2) - 24)
        # (1, 1) is middled (1, 0): 3 * 2 * 1 * -2 + 0
        self.assertEqual(worth_of(PAIR, [(0, 0), (1, 1)]), 3 * 2 * -1 + 2 * 2 * -2 + 12)
        self.assertEqual(worth_of(PAIR, [(1, 1), (0, 0)]), 3 * 2 * -1 + 2 * 2 * -2 + 12)

    def test_gains_by_hand(self):
        # the last standing (1, 1) pulls by 2 and 3, middled 0 and 3
        self.assertEqual(gains(PAIR, [(0, 0), (1, 1)], (0, 0)), (0, 0))
        self.assertEqual(gains(PAIR, [(0, 0), (1, 1)], (1, 0)), (3 * (0 + 2), 0))
        self.assertEqual(gains(PAIR, [(0, 0), (1, 1)], (0, 1)), (0, 2 * (4 + 6)))
        self.assertEqual(gains(PAIR, [(1, 0), (1, 1)], (0, 1)), (3 * (0 - 2), 2 * (4 + 6)))

    def test_mirrored_by_hand(self):
        # weights are 2 - 1 - 1 = 0 and 0 - 1 + 1 = 0; (0, 0) is middled (-1, -1)
        self.assertEqual(worth_of(MIRRORED, [(0, 0), (0, 0)]), 0)
        self.assertEqual(worth_of(MIRRORED, [(0, 0), (0, 1)]), -(1 * -1 * -1 + -1 * 1 * -1))
        # pulls by (0, 0) are middled -1 and 1; what comes to be is (1, 1)
        self.assertEqual(gains(MIRRORED, [(0, 0), (0, 0)], (0, 1)), (2, 0))
        self.assertEqual(gains(MIRRORED, [(0, 0), (0, 0)], (1, 1)), (0, 0))

    def test_worth_against_plain_sums(self):
        for draw, hall, _, _ in drawn(70, 200):
            window = draw_window(draw, hall)
            told = worth_by_words(hall, window)
            self.assertEqual(worth_of(hall, window), told)
            self.assertEqual(worth_of(hall, tuple(window)), told)
            self.assertEqual(worth_of(window=window, hall=hall), told)

    def test_gains_against_plain_sums(self):
        for draw, hall, _, _ in drawn(71, 200):
            window, standing = draw_window(draw, hall), draw_standing(draw, hall)
            told = gains_by_words(hall, window, standing)
            self.assertEqual(gains(hall, window, standing), told)
            self.assertEqual(gains(hall, tuple(window), standing), told)
            self.assertEqual(gains(standing=standing, window=window, hall=hall), told)

    def test_gains_together_are_the_fall(self):
        for draw, hall, _, _ in drawn(72, 200):
            window, standing = draw_window(draw, hall), draw_standing(draw, hall)
            fall = worth_of(hall, window) - worth_of(hall, window[1:] + [standing])
            self.assertEqual(sum(gains(hall, window, standing)), fall)

    def test_gains_of_the_next_beat(self):
        for draw, hall, _, _ in drawn(73, 200):
            window, scales = draw_window(draw, hall), scales_told(hall)
            standing = lean(hall, window[1:])
            first = window[0] if word_of(hall) == "even" else mirror(hall, window[0])
            for person, gain in enumerate(gains(hall, window, standing)):
                self.assertGreaterEqual(gain, 2 * scales[person] * abs(standing[person] - first[person]))

    def test_along_histories(self):
        for _, hall, past, held in drawn(74, 100):
            told = worths(hall, past, 12, held=held)
            rows, k = history_of(hall, past, 12, held), len(hall.memory())
            self.assertEqual(told, [worth_by_words(hall, rows[at:at + k + 1]) for at in range(12)])
            self.assertEqual(told, sorted(told, reverse=True))
            self.assertEqual(worths(hall, tuple(past), 12, held=tuple(held)), told)
            self.assertEqual(worths(many=12, held=held[::-1], past=past, hall=hall), told)
            for many in (0, 1, 5):
                self.assertEqual(worths(hall, past, many, held=held), told[:many])

    def test_2000_windows(self):
        draw = Random(75)
        hall = draw_even(draw, 12, False)
        told = worths(hall, draw_past(draw, hall), 2000)
        self.assertEqual(len(told), 2000)
        self.assertEqual(told, sorted(told, reverse=True))
        self.assertEqual(told[1000:], [told[-1]] * 1000)

    def test_strings_that_are_all_0(self):
        hall = Hall([[0, 0], [0, 0]], [[1], [-3, 2]], [1, -1])
        for window in product(product(range(2), range(3)), repeat=3):
            self.assertEqual(worth_of(hall, window), worth_by_words(hall, window))


class Unlike(unittest.TestCase):
    def test_by_hand(self):
        # from (0, 0) it never moves: person 0 needs 2, person 1 needs 1
        self.assertEqual(unlike_beats(PAIR, [(0, 0)]), [])
        # 0: (0, 1), 1: (1, 0), 2: (0, 1), 3: (1, 0)
        self.assertEqual(unlike_beats(PAIR, [(0, 1)]), [])
        # 0: (1, 2), 1: (1, 1), 2: (1, 1), 3: (1, 1); only beat 2 is unlike beat 0
        fall = worth_of(PAIR, [(1, 2), (1, 1)]) - worth_of(PAIR, [(1, 1), (1, 1)])
        self.assertEqual(history(PAIR, [(1, 2)], 3), [(1, 2), (1, 1), (1, 1), (1, 1)])
        self.assertEqual(unlike_beats(PAIR, [(1, 2)]), [(2, fall)])
        # somebody held: who is held as it stands changes nothing
        self.assertEqual(unlike_beats(PAIR, [(1, 2)], held=[(0, 1)]), [(2, fall)])
        self.assertEqual(unlike_beats(PAIR, [(1, 2)], held=[(1, 1)]), [])

    def test_beats_that_are_not_unlike_between(self):
        """One amid unlike ones doesn't end the list, where more are remembered."""
        found = 0
        for _, hall, past, held in drawn(76, 300):
            beats = [beat for beat, _ in unlike_beats(hall, past, held=held)]
            found += any(later - beat > 1 for beat, later in zip(beats, beats[1:]))
        self.assertGreater(found, 10)

    def test_against_plain_words(self):
        for _, hall, past, held in drawn(77, 200):
            told = unlike_by_words(hall, past, held, 80)
            self.assertEqual(unlike_beats(hall, past, held=held), told)
            self.assertEqual(unlike_beats(hall, tuple(past), held=tuple(held)[::-1]), told)
            self.assertEqual(unlike_beats(held=held, past=past, hall=hall), told)
            k = len(hall.memory())
            for beat, fall in told:
                self.assertGreaterEqual(beat, k + 1)
                self.assertGreaterEqual(fall, 2)
                self.assertEqual(fall, worth_fall(hall, past, held, beat))

    def test_kinds_of_what_is_told(self):
        told = unlike_beats(PAIR, [(1, 2)])
        self.assertIs(type(told), list)
        self.assertEqual([type(one) for one in told], [tuple])
        told.clear()
        self.assertEqual(len(unlike_beats(PAIR, [(1, 2)])), 1)


def worth_fall(hall, past, held, beat):
    at = beat - len(hall.memory())
    told = worths(hall, past, at + 1, held=held)
    return told[at - 1] - told[at]


class Shown(unittest.TestCase):
    def check(self, told, hall, past, thing, held=()):
        before = deepcopy(thing)
        self.assertIs(shows_falls(hall, past, thing, held=held), told, thing)
        self.assertIs(shows_falls(held=held, thing=thing, past=tuple(past), hall=hall), told, thing)
        self.assertEqual(repr(thing), repr(before))

    def test_that_list_and_others(self):
        for _, hall, past, held in drawn(78, 60):
            falls = unlike_beats(hall, past, held=held)
            self.check(True, hall, past, falls, held)
            self.check(False, hall, past, tuple(falls), held)
            self.check(False, hall, past, falls + [(99, 2)], held)
            self.check(False, hall, past, [(0, 2)] + falls, held)
            for at, (beat, fall) in enumerate(falls):
                for new in ((beat + 1, fall), (beat, fall + 1), (beat, fall - 1), (beat, -fall), (fall, beat + 99),
                            [beat, fall],
                            (beat, fall, 0), (beat,), beat, None, (beat, str(fall)), (str(beat), fall), (beat, None),
                            (beat, (fall,)), (True, fall), (beat, True), ((beat, fall),)):
                    self.check(False, hall, past, put(falls, at, new), held)
                self.check(False, hall, past, falls[:at] + falls[at + 1:], held)
                self.check(False, hall, past, falls[:at + 1] + falls[at:], held)
            if len(falls) > 1:
                self.check(False, hall, past, falls[::-1], held)

    def test_things_of_any_kind(self):
        for thing in THINGS:
            self.check(thing == [], PAIR, [(0, 0)], thing)
            self.check(False, PAIR, [(1, 2)], thing)
        for thing in ((), None, False, 0, "", "[]", [()], [[]], [None]):
            self.check(False, PAIR, [(0, 0)], thing)


class Ranges(unittest.TestCase):
    def test_by_hand(self):
        # sums of weights of PAIR: 0, -1 and 0, -2, 2, twice; strings by scales and tops: 3 * 2 * 2 + 2 * 3 * 2 = 24
        self.assertEqual(range_of(PAIR), (2 * (3 * -2 + 2 * -4) - 24, 2 * (0 + 2 * 4) + 24))
        self.assertEqual(bound_of(PAIR), (40 + 52) // 2)
        # nobody is pulled: weights -1 of one step 0
        self.assertEqual(range_of(Hall([[0]], [[0]])), (-4, 0))
        self.assertEqual(bound_of(Hall([[0]], [[0]])), 2)
        self.assertEqual((range_of(MIRRORED), bound_of(MIRRORED)), ((-2, 2), 2))

    def test_against_plain_sums(self):
        for _, hall, _, _ in drawn(79, 150):
            low, high = range_by_words(hall)
            self.assertEqual(range_of(hall), (low, high))
            self.assertEqual(range_of(hall=hall), (low, high))
            self.assertEqual(bound_of(hall), len(hall.memory()) * ((high - low) // 2))
            self.assertEqual(bound_of(hall=hall), bound_of(hall))
            self.assertIs(type(range_of(hall)), tuple)

    def test_halves_are_cut_off(self):
        # whole twos alone: an odd high - low would be told so too
        for draw, hall, _, _ in drawn(80, 40):
            low, high = range_of(hall)
            self.assertLessEqual(2 * bound_of(hall), len(hall.memory()) * (high - low))
            self.assertGreater(2 * bound_of(hall) + 2 * len(hall.memory()), len(hall.memory()) * (high - low))

    def test_all_worths_lie_within(self):
        for draw, hall, past, held in drawn(81, 150):
            low, high = range_of(hall)
            for _ in range(10):
                self.assertTrue(low <= worth_of(hall, draw_window(draw, hall)) <= high)
            self.assertTrue(all(low <= worth <= high for worth in worths(hall, past, 20, held=held)))

    def test_from_bound_on_it_comes_again(self):
        """Promised above all, [1] (b)."""
        for _, hall, past, held in drawn(82, 150):
            k, bound = len(hall.memory()), bound_of(hall)
            beats = [beat for beat, _ in unlike_beats(hall, past, held=held)]
            self.assertTrue(all(beat - k - 1 < bound for beat in beats))
            if bound <= 1500:
                rows = history(hall, past, bound + 3 * (k + 1), held=held)
                for beat in range(bound, bound + 2 * (k + 1) - 1):
                    ahead = rows[beat] if word_of(hall) == "even" else mirror(hall, rows[beat])
                    self.assertEqual(rows[beat + k + 1], ahead)

    def test_all_pasts_of_small_halls(self):
        for hall in (Hall([[0, 1], [1, 0]], [[1], [1]]), Hall([[0, -1], [-1, 1]], [[0], [0, 1]]), MIRRORED, PAIR,
                     Hall([[0, 1], [-1, 0]], [[0], [0]], [1, -1]), Hall([[1, 1], [1, 0]], [[0, 1], [-1, 2]], [1, -1])):
            k, bound = len(hall.memory()), bound_of(hall)
            for past in pasts_of(hall):
                rows = history(hall, past, bound + 3 * (k + 1))
                for beat in range(bound, bound + k + 1):
                    ahead = rows[beat] if word_of(hall) == "even" else mirror(hall, rows[beat])
                    self.assertEqual(rows[beat + k + 1], ahead)


class Refusals(unittest.TestCase):
    def check_all(self, hall, window, held=()):
        past, standing = window[1:], window[0]
        asks = [lambda: worths(hall, past, 3, held=held), lambda: worths(hall, past, 0, held=held),
                lambda: unlike_beats(hall, past, held=held), lambda: shows_falls(hall, past, [], held=held),
                lambda: shows_falls(hall, past, "x", held=held), lambda: shows_falls(hall, past, None, held=held)]
        if not held:
            asks += [lambda: worth_of(hall, window), lambda: gains(hall, window, standing), lambda: range_of(hall),
                     lambda: bound_of(hall)]
        for ask in asks:
            self.assertRaises(NotEven, ask)

    def test_halls_that_are_neither(self):
        draw = Random(83)
        halls = [NEITHER, NEITHER_BY_MEMORY, NEITHER_BY_STEPS] + [draw_hall(draw) for _ in range(100)]
        for hall in halls:
            if word_of(hall) == "":
                self.check_all(hall, draw_window(draw, hall))
                self.check_all(hall, draw_window(draw, hall), draw_held(draw, hall, 1))

    def test_mirrored_with_somebody_held(self):
        draw = Random(84)
        for _ in range(60):
            hall = draw_mirrored(draw)
            window, held = draw_window(draw, hall), draw_held(draw, hall, draw.randint(1, len(hall)))
            self.check_all(hall, window, held)
            self.check_all(hall, window, tuple(held))
            for nobody in ((), []):
                self.assertEqual(len(worths(hall, window[1:], 3, held=nobody)), 3)
                falls = unlike_beats(hall, window[1:], held=nobody)
                self.assertIs(shows_falls(hall, window[1:], falls, held=nobody), True)
            self.assertEqual(len(range_of(hall)), 2)

    def test_even_with_somebody_held(self):
        draw = Random(85)
        for _ in range(60):
            hall = draw_even(draw)
            held, past = draw_held(draw, hall, draw.randint(1, len(hall))), draw_past(draw, hall)
            self.assertIs(shows_falls(hall, past, unlike_beats(hall, past, held=held), held=held), True)
        self.assertEqual(unlike_beats(PAIR, [(1, 2)], held=[(0, 0), (1, 0)]), [])

    def test_by_names_alone(self):
        self.assertRaises(TypeError, worths, PAIR, [(0, 0)], 1, ())
        self.assertRaises(TypeError, unlike_beats, PAIR, [(0, 0)], ())
        self.assertRaises(TypeError, shows_falls, PAIR, [(0, 0)], [], ())


class HandedIn(unittest.TestCase):
    def test_nothing_is_changed(self):
        for draw, hall, past, held in drawn(86, 40):
            window, standing = draw_window(draw, hall), draw_standing(draw, hall)
            before = deepcopy((window, standing, past, held))
            worth_of(hall, window), gains(hall, window, standing), worths(hall, past, 4, held=held)
            unlike_beats(hall, past, held=held), shows_falls(hall, past, [], held=held)
            self.assertEqual((window, standing, past, held), before)

    def test_what_was_told_may_be_handed_in_again(self):
        for _, hall, past, held in drawn(87, 40):
            window = history(hall, past, 1, held=held)
            self.assertEqual(worth_of(hall, window), worths(hall, past, 1, held=held)[0])
            self.assertEqual(sum(gains(hall, window, next_of(hall, window[1:]))),
                             worth_of(hall, window) - worth_of(hall, window[1:] + [next_of(hall, window[1:])]))

    def test_told_lists_are_the_askers_own(self):
        told = worths(PAIR, [(1, 2)], 3)
        told.clear()
        self.assertEqual(len(worths(PAIR, [(1, 2)], 3)), 3)
        self.assertEqual(worths(PAIR, [(1, 2)], 0), [])
        self.assertIs(type(gains(PAIR, [(0, 0), (0, 0)], (0, 0))), tuple)


if __name__ == "__main__":
    unittest.main()
