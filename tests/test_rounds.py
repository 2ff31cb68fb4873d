import unittest
from copy import deepcopy

from swayhalls.beats import Sway, history
from swayhalls.halls import Hall
from swayhalls.limits import MOST
from swayhalls.rounds import round_at, round_of, round_on, shows_round
from tests.draws import draws
from tests.plain import history_of, round_in
from tests.samples import THINGS


def rings(*sizes, memory=(1,), turning=()):
    """Rings beside each other: each person does as the one ahead of it did; in the turning ones one does otherwise."""
    persons = sum(sizes)
    strings, steps, first = [[0] * persons for _ in range(persons)], [[1] for _ in range(persons)], 0
    for at, size in enumerate(sizes):
        for place in range(size):
            strings[first + place][first + (place - 1) % size] = 1
        if at in turning:
            strings[first][first + size - 1], steps[first] = -1, [0]
        first += size
    return Hall(strings, steps, memory)


def chain(persons, memory=(1,)):
    """The first one falls, each other one does as the one ahead of it did."""
    strings = [[1 if other == person - 1 else 0 for other in range(persons)] for person in range(persons)]
    return Hall(strings, [[1]] * persons, memory)


def spike(persons):
    return tuple(1 if person == 0 else 0 for person in range(persons))


# hall, past, held, the least pair
BY_HAND = [
    (rings(3), [(1, 0, 0)], (), (0, 3)),
    (rings(3), [(1, 1, 0)], (), (0, 3)),
    (rings(3), [(1, 1, 1)], (), (0, 1)),
    (rings(4), [(1, 0, 0, 0)], (), (0, 4)),
    (rings(4), [(1, 0, 1, 0)], (), (0, 2)),
    (rings(5), [(1, 0, 1, 0, 0)], (), (0, 5)),
    (rings(5), [(0, 0, 0, 0, 0)], (), (0, 1)),
    (rings(3, 4, 5), [(1, 0, 0, 1, 0, 0, 0, 1, 0, 0, 0, 0)], (), (0, 60)),
    (rings(3, turning=(0,)), [(0, 0, 0)], (), (0, 6)),
    (rings(3), [(1, 0, 0)], [(0, 0)], (0, 1)),
    (rings(3), [(0, 0, 0)], [(0, 1)], (2, 1)),
    (rings(3), [(0, 1, 0)], [(0, 1)], (1, 1)),
    (rings(4), [(0, 1, 1, 0)], [(1, 0)], (3, 1)),
    (Hall([[1, 0], [0, 1]], [[1], [1, 2]]), [(1, 2)], (), (0, 1)),
    (chain(4), [(1, 1, 1, 1)], (), (4, 1)),
    (chain(12), [(1,) * 12], (), (12, 1)),
    (chain(3, (0, 1)), [(1, 1, 1), (1, 1, 1)], (), (6, 1)),
    (chain(3, (0, 1)), [(1, 1, 1), (0, 0, 0)], (), (5, 1)),
    (Hall([[1]], [[1]], [0, 1]), [(1,), (0,)], (), (0, 2)),
    (Hall([[1]], [[1]], [0, 0, 0, 0, 1]), [(1,), (0,), (0,), (0,), (0,)], (), (0, 5)),
    (Hall([[-1]], [[0]], [0, 0, 1]), [(0,), (0,), (0,)], (), (0, 6)),
    (rings(5, memory=(0, 0, 0, 0, 1)), [spike(5)] + [(0,) * 5] * 4, (), (0, 25)),
    # the past's first beat is no part of the round
    (Hall([[0]], [[0]], [1, 1]), [(0,), (1,)], (), (1, 1)),
    (Hall([[0]], [[0]], [1, 1]), [(0,), (0,)], (), (2, 1)),
    (Hall([[0]], [[0]], [1, 1]), [(1,), (1,)], (), (0, 1)),
    (Hall([[0]], [[0]], [1, 1]), [(0,), (0,)], [(0, 0)], (0, 1)),
]
# a round of 600 beats, longer than MOST
LONG = rings(3, 4, 5, memory=(0, 0, 0, 0, 1), turning=(0, 1, 2))
LONG_PAST = [spike(12)] + [(0,) * 12] * 4


class Least(unittest.TestCase):
    def test_by_hand(self):
        for hall, past, held, pair in BY_HAND:
            self.assertEqual(round_of(hall, past, held=held), pair)
            self.assertEqual(round_of(hall, tuple(past), held=tuple(held), most=2000), pair)
            self.assertEqual(round_on(Sway(hall, past, held=held)), pair)

    def test_standings_by_hand(self):
        self.assertEqual(round_at(rings(3), [(1, 0, 0)]), [(1, 0, 0), (0, 1, 0), (0, 0, 1)])
        self.assertEqual(round_at(rings(4), [(0, 1, 0, 1)]), [(0, 1, 0, 1), (1, 0, 1, 0)])
        self.assertEqual(round_at(chain(4), [(1, 1, 1, 1)]), [(0, 0, 0, 0)])
        self.assertEqual(round_at(rings(3), [(0, 0, 0)], held=[(0, 1)]), [(1, 1, 1)])
        self.assertEqual(round_at(Hall([[0]], [[0]], [1, 1]), [(0,), (0,)]), [(1,)])

    def test_standings_are_those_of_the_beats(self):
        for hall, past, held, (begin, length) in BY_HAND:
            rows = history_of(hall, past, 200, held)
            for most in (MOST, begin + length, 2000):
                told = round_at(hall, past, held=held, most=most)
                self.assertEqual(told, rows[begin:begin + length])
                self.assertIs(type(told), list)

    def test_none_just_where_more_than_most(self):
        for hall, past, held, (begin, length) in BY_HAND:
            for most in range(begin + length + 3):
                told = (begin, length) if begin + length <= most else None
                self.assertEqual(round_of(hall, past, held=held, most=most), told)
                self.assertEqual(round_of(most=most, held=held, past=past, hall=hall), told)
                self.assertEqual(round_on(Sway(hall, past, held=held), most=most), told)
                self.assertEqual(round_on(most=most, sway=Sway(hall, past, held=held)), told)
                self.assertIs(round_at(hall, past, held=held, most=most) is None, told is None)
                self.assertIs(round_at(most=most, held=held, past=past, hall=hall) is None, told is None)

    def test_most_left_out_is_400(self):
        self.assertIsNone(round_of(LONG, LONG_PAST))
        self.assertIsNone(round_at(LONG, LONG_PAST))
        self.assertIsNone(round_on(Sway(LONG, LONG_PAST)))
        self.assertEqual(round_of(LONG, LONG_PAST, most=2000), (0, 600))
        self.assertEqual(round_of(LONG, LONG_PAST, most=600), (0, 600))
        self.assertIsNone(round_of(LONG, LONG_PAST, most=599))
        self.assertEqual(round_at(LONG, LONG_PAST, most=600), history_of(LONG, LONG_PAST, 595))
        self.assertEqual(round_on(Sway(LONG, LONG_PAST), most=2000), (0, 600))

    def test_just_400_and_one_more(self):
        # a person who comes to stand at 1 for good, beside rings that go round in 400 beats
        plain = rings(8, 5, memory=(0, 0, 0, 0, 1), turning=(0,))
        hall = Hall([[*row, 0] for row in plain.strings()] + [[0] * 14], plain.steps() + ((0,),), plain.memory())
        late = [(*spike(8), *spike(5), 0)] + [(0,) * 13 + (1,)] * 4
        soon = [(*spike(8), *spike(5), 1)] + late[1:]
        for past, pair, told in ((soon, (0, 400), (0, 400)), (late, (1, 400), None)):
            self.assertEqual(round_of(hall, past, most=2000), pair)
            self.assertEqual(round_of(hall, past), told)
            self.assertEqual(round_on(Sway(hall, past)), told)
            self.assertEqual(round_at(hall, past) is None, told is None)
            self.assertIs(shows_round(hall, past, pair), True)

    def test_against_looking_at_all_pairs(self):
        for hall, past, held in draws(30, 150):
            rows = history_of(hall, past, 120, held)
            told = round_in(rows, len(hall.memory()))
            if told is not None:
                self.assertEqual(round_of(hall, past, held=held), told)
                self.assertEqual(round_at(hall, past, held=held), rows[told[0]:sum(told)])
                self.assertEqual(round_on(Sway(hall, past, held=held)), told)

    def test_by_names_alone(self):
        self.assertRaises(TypeError, round_of, rings(3), [(1, 0, 0)], ())
        self.assertRaises(TypeError, round_at, rings(3), [(1, 0, 0)], ())
        self.assertRaises(TypeError, round_on, Sway(rings(3), [(1, 0, 0)]), 9)
        self.assertRaises(TypeError, shows_round, rings(3), [(1, 0, 0)], (0, 3), ())


class OfSways(unittest.TestCase):
    def test_goes_on_from_where_it_is(self):
        sway = Sway(chain(4), [(1, 1, 1, 1)])
        for begin in (4, 3, 2, 1, 0, 0):
            self.assertEqual(round_on(sway), (begin, 1))
            sway.beat()

    def test_what_is_remembered_stays_though_somebody_is_held(self):
        # held from the past on it's (0, 1); held from now on, what is remembered is no part of the round
        hall = Hall([[1]], [[1]], [0, 0, 1])
        past = [(1,), (0,), (0,)]
        sway = Sway(hall, past)
        self.assertEqual(round_on(sway), (0, 3))
        sway.hold(0, 1)
        self.assertEqual(round_on(sway), (3, 1))
        self.assertEqual(round_of(hall, past, held=[(0, 1)]), (0, 1))
        sway.beat()
        self.assertEqual(round_on(sway), (2, 1))
        sway.loose(0)
        self.assertEqual(round_on(sway), (0, 3))

    def test_against_a_going_on(self):
        for hall, past, held in draws(31, 80):
            sway = Sway(hall, past)
            sway.beat(2)
            for person, posture in held:
                sway.hold(person, posture)
            going, rows = sway.twin(), sway.past()
            rows += [going.beat() for _ in range(120)]
            told = round_in(rows, len(hall.memory()))
            if told is not None:
                self.assertEqual(round_on(sway), told)

    def test_asking_changes_nothing(self):
        sway = Sway(rings(3), [(1, 0, 0)], held=[(2, 1)])
        sway.beat(2)
        kept = sway.past(), sway.held(), len(sway)
        for most in (0, 1, MOST, 2000):
            round_on(sway, most=most)
            self.assertEqual((sway.past(), sway.held(), len(sway)), kept)


class Shown(unittest.TestCase):
    def check(self, told, hall, past, thing, held=()):
        before = deepcopy(thing)
        self.assertIs(shows_round(hall, past, thing, held=held), told, thing)
        self.assertIs(shows_round(held=held, thing=thing, past=tuple(past), hall=hall), told, thing)
        self.assertEqual(repr(thing), repr(before))

    def test_least_later_and_longer_ones(self):
        for hall, past, held, (begin, length) in BY_HAND:
            for b in (0, 1, begin - 1, begin, begin + 1, begin + 7):
                for l in (1, 2, length - 1, length, length + 1, 2 * length, 3 * length, 3 * length + 1):
                    told = b >= begin and 1 <= l <= 400 and l % length == 0
                    self.check(told, hall, past, (b, l), held)

    def test_to_2000_and_400(self):
        hall, past = rings(4), [(1, 0, 0, 0)]
        self.check(True, hall, past, (2000, 400))
        self.check(True, hall, past, (2000, 4))
        self.check(True, hall, past, (0, 400))
        self.check(False, hall, past, (2001, 400))
        self.check(False, hall, past, (2001, 4))
        self.check(False, hall, past, (2000, 404))
        self.check(False, hall, past, (0, 404))
        self.check(False, hall, past, (2000, 399))
        self.check(False, LONG, LONG_PAST, (0, 600))
        still = Hall([[1]], [[1]])
        self.check(True, still, [(1,)], (2000, 400))
        self.check(False, still, [(1,)], (2000, 401))
        self.check(False, still, [(1,)], (2001, 1))

    def test_none_below(self):
        still, past = Hall([[1]], [[1]]), [(1,)]
        for thing in ((-1, 1), (0, 0), (0, -1), (5, 0), (-1, 0), (-2, -2), (-10 ** 30, 1), (0, -10 ** 30),
                      (10 ** 30, 1),
                      (0, 10 ** 30), (10 ** 30, 10 ** 30)):
            self.check(False, still, past, thing)

    def test_all_pairs_of_a_small_hall(self):
        for hall, past, held in draws(32, 12):
            beats = len(hall.memory())
            rows = history_of(hall, past, 60, held)
            for b in range(0, 16, 3):
                for l in range(1, 14):
                    told = rows[b:b + beats] == rows[b + l:b + l + beats]
                    self.check(told, hall, past, (b, l), held)

    def test_two_standings_alike_are_no_round(self):
        # 0 0 1 0 0 1: beats 0 and 1 are alike, but it isn't length 1
        hall, past = Hall([[1]], [[1]], [0, 0, 1]), [(0,), (0,), (1,)]
        self.check(False, hall, past, (0, 1))
        self.check(True, hall, past, (0, 3))
        self.check(True, hall, past, (1, 6))

    def test_things_of_any_kind(self):
        still, past = Hall([[1]], [[1]]), [(1,)]
        for thing in THINGS:
            self.check(False, still, past, thing)
        for thing in ([0, 1], (0,), (0, 1, 1), (0, 1, None), (True, 1), (0, True), (False, 1), (False, True),
                      ("0", 1), (0, "1"),
                      (None, 1), (0, None), ((0, 1),), [(0, 1)], ((0,), (1,)), ([0], 1), (0, [1]), "01", "(0, 1)"):
            self.check(False, still, past, thing)

    def test_what_is_told_shows_it(self):
        for hall, past, held in draws(33, 60):
            found = round_of(hall, past, held=held)
            if found is not None:
                self.check(True, hall, past, found, held)


class HandedIn(unittest.TestCase):
    def test_nothing_is_changed(self):
        for hall, past, held in draws(34, 30):
            before = deepcopy((past, held))
            round_of(hall, past, held=held), round_at(hall, past, held=held), shows_round(hall, past, (1, 2), held=held)
            self.assertEqual((past, held), before)

    def test_told_lists_are_the_askers_own(self):
        past = [(1, 0, 0)]
        told = round_at(rings(3), past)
        told.clear()
        self.assertEqual(round_at(rings(3), past), history(rings(3), past, 2))
        still = [(1, 1, 1)]
        round_at(rings(3), still).append("x")
        self.assertEqual((still, round_at(rings(3), still)), ([(1, 1, 1)], [(1, 1, 1)]))

    def test_kinds_of_what_is_told(self):
        told = round_of(rings(3), [(1, 0, 0)])
        self.assertIs(type(told), tuple)
        self.assertEqual([type(one) for one in told], [int, int])


if __name__ == "__main__":
    unittest.main()
