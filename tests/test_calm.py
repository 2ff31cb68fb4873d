import unittest
from copy import deepcopy
from itertools import permutations
from random import Random

from swayhalls.calm import calm_worth, is_calm, rest_by, restless, rests_of, turned_to
from swayhalls.errors import NotCalm, TooMany
from swayhalls.folds import folded
from swayhalls.halls import Hall
from tests.draws import (
    WEIGHTS, draw_even, draw_hall, draw_mirrored, draw_scales, draw_standing, draw_steps, strings_by,
)
from tests.plain import scales_told, standings_of, weight_sum
from tests.samples import put_in

# by scales 3 and 2, as in the tests of worths; person 1 pulls itself up
PAIR = Hall([[0, 2], [3, 1]], [[2], [1, 4]])
# of one who wants to stand as the other, and one who doesn't: nobody who turns comes to rest
CHASE = Hall([[0, 1], [-1, 0]], [[1], [0]])


def draw_calm(draw, persons=None, reach=4):
    """A hall of straight strings by drawn scales, own ones not below 0."""
    persons = draw.randint(1, 5) if persons is None else persons
    strings = strings_by(draw, draw_scales(draw, persons), False, reach)
    for person, row in enumerate(strings):
        row[person] = abs(row[person])
    return Hall(strings, [draw_steps(draw, draw.randint(1, 4), 25) for _ in range(persons)])


def draw_forgetful(draw):
    return draw_hall(draw, memory=(1,))


def leant_by_sums(hall, standing, person):
    pull = 0
    for other, posture in enumerate(standing):
        pull += hall.strings()[person][other] * posture
    return sum(step <= pull for step in hall.steps()[person])


def turned_by_sums(hall, standing, person):
    postures = list(standing)
    postures[person] = leant_by_sums(hall, standing, person)
    return tuple(postures)


def restless_by_sums(hall, standing):
    return [person for person in range(len(hall)) if leant_by_sums(hall, standing, person) != standing[person]]


def worth_by_sums(hall, standing):
    scales, total = scales_told(hall), 0
    middled = [2 * posture - top for posture, top in zip(standing, hall.tops())]
    for i in range(len(hall)):
        total += scales[i] * 4 * weight_sum(hall, i, standing[i])
        for j in range(len(hall)):
            total -= scales[i] * hall.strings()[i][j] * middled[i] * middled[j]
    return total


def rest_by_sums(hall, standing, order):
    turns, at = [], 0
    while restless_by_sums(hall, standing):
        person = order[at % len(order)]
        later = turned_by_sums(hall, standing, person)
        if later != standing:
            turns.append(person)
        standing, at = later, at + 1
    return standing, turns


def draw_order(draw, hall):
    """Each person once at least, some more than once."""
    order = list(range(len(hall))) + [draw.randrange(len(hall)) for _ in range(draw.randint(0, 4))]
    draw.shuffle(order)
    return order


class Calm(unittest.TestCase):
    def test_by_hand(self):
        self.assertIs(is_calm(PAIR), True)
        self.assertIs(is_calm(hall=Hall([[0]], [[1]])), True)
        self.assertIs(is_calm(Hall([[5]], [[1]])), True)
        self.assertIs(is_calm(Hall([[-1]], [[1]])), False)
        self.assertIs(is_calm(CHASE), False)
        self.assertIs(is_calm(Hall([[0, 1], [0, 0]], [[1], [1]])), False)
        self.assertIs(is_calm(Hall([[0, -2], [-5, 0]], [[1], [1]])), True)

    def test_by_drawn_scales(self):
        draw = Random(110)
        for _ in range(120):
            hall = draw_calm(draw)
            self.assertIs(is_calm(hall), True)
            for memory in WEIGHTS + [(2,), (1, 1), (0, 1)]:
                if memory != (1,):
                    self.assertIs(is_calm(Hall(hall.strings(), hall.steps(), memory)), False, memory)

    def test_an_own_string_below_0(self):
        draw = Random(111)
        for _ in range(60):
            hall = draw_calm(draw)
            for person in range(len(hall)):
                for much, told in ((-1, False), (-99, False), (0, True), (7, True)):
                    strings = put_in(hall.strings(), person, person, much)
                    self.assertIs(is_calm(Hall(strings, hall.steps())), told)

    def test_one_string_otherwise(self):
        draw = Random(112)
        for _ in range(60):
            hall = draw_calm(draw, draw.randint(2, 4))
            one, other = draw.sample(range(len(hall)), 2)
            there, back = hall.strings()[one][other], hall.strings()[other][one]
            faults = [0, -there] if there != 0 else [1, -1]
            for much in faults:
                self.assertIs(is_calm(Hall(put_in(hall.strings(), one, other, much), hall.steps())), False)
            self.assertEqual(there == 0, back == 0)

    def test_a_ring_that_no_scales_fit(self):
        ring = Hall([[0, 1, 1], [1, 0, 2], [1, 1, 0]], [[1], [1], [1]])
        self.assertIs(is_calm(ring), False)
        self.assertIs(is_calm(Hall([[0, 1, 1], [1, 0, 2], [1, 2, 0]], [[1], [1], [1]])), True)

    def test_strings_that_are_turned(self):
        draw = Random(113)
        for _ in range(40):
            hall = draw_even(draw, draw.randint(2, 4), True)
            strings = hall.strings()
            self.assertIs(is_calm(Hall(strings, hall.steps())), not any(map(any, strings)))
            self.assertIs(is_calm(hall), False)


class Turns(unittest.TestCase):
    def test_by_hand(self):
        # by (1, 0) person 0 is pulled by 0, person 1 by 3
        self.assertEqual(turned_to(PAIR, (1, 0), 0), (0, 0))
        self.assertEqual(turned_to(PAIR, (1, 0), 1), (1, 1))
        self.assertEqual(restless(PAIR, (1, 0)), [0, 1])
        # (1, 1): person 0 by 2, person 1 by 4
        self.assertEqual(restless(PAIR, (1, 1)), [1])
        self.assertEqual(turned_to(PAIR, (1, 1), 1), (1, 2))
        self.assertEqual(restless(PAIR, (1, 2)), [])
        self.assertEqual(restless(PAIR, (0, 0)), [])

    def test_against_sums(self):
        draw = Random(114)
        for at in range(200):
            hall = draw_calm(draw) if at % 3 == 0 else draw_forgetful(draw)
            standing = draw_standing(draw, hall)
            told = restless(hall, standing)
            self.assertEqual(told, restless_by_sums(hall, standing))
            self.assertEqual(restless(standing=standing, hall=hall), told)
            self.assertIs(type(told), list)
            for person in range(len(hall)):
                later = turned_to(hall, standing, person)
                self.assertEqual(later, turned_by_sums(hall, standing, person))
                self.assertEqual(turned_to(person=person, standing=standing, hall=hall), later)
                self.assertIs(type(later), tuple)
                self.assertEqual(later != standing, person in told)


class Worths(unittest.TestCase):
    def test_by_hand(self):
        # middles 4 and 5; weights -1 and -4, 2; (0, 0) is middled (-1, -2)
        strings = 3 * 2 * 2 + 2 * 3 * 2 + 2 * 1 * 4
        self.assertEqual(calm_worth(PAIR, (0, 0)), -strings)
        self.assertEqual(calm_worth(PAIR, (1, 2)), 3 * 4 * -1 + 2 * 4 * (-4 + 2) - strings)
        # (1, 1) is middled (1, 0)
        self.assertEqual(calm_worth(PAIR, (1, 1)), 3 * 4 * -1 + 2 * 4 * -4)

    def test_against_sums(self):
        draw = Random(115)
        for _ in range(200):
            hall = draw_calm(draw)
            standing = draw_standing(draw, hall)
            told = calm_worth(hall, standing)
            self.assertEqual(told, worth_by_sums(hall, standing))
            self.assertEqual(calm_worth(standing=standing, hall=hall), told)

    def test_each_turn_makes_it_less(self):
        draw, moved = Random(116), 0
        for _ in range(200):
            hall = draw_calm(draw)
            standing, scales = draw_standing(draw, hall), scales_told(hall)
            for person in restless(hall, standing):
                later = turned_to(hall, standing, person)
                steps = abs(later[person] - standing[person])
                fall = calm_worth(hall, standing) - calm_worth(hall, later)
                self.assertGreaterEqual(fall, 4 * steps * scales[person])
                moved += 1
        self.assertGreater(moved, 100)


class Rests(unittest.TestCase):
    def test_by_hand(self):
        self.assertEqual(rest_by(PAIR, (1, 0), [0, 1]), ((0, 0), [0]))
        self.assertEqual(rest_by(PAIR, (1, 0), [1, 0]), ((1, 2), [1, 1]))
        self.assertEqual(rest_by(PAIR, (1, 0), [1, 1, 0]), ((1, 2), [1, 1]))
        self.assertEqual(rest_by(PAIR, (1, 2), [0, 1]), ((1, 2), []))

    def test_orders_against_sums(self):
        draw, turned = Random(117), 0
        for _ in range(150):
            hall = draw_calm(draw)
            standing, order = draw_standing(draw, hall), draw_order(draw, hall)
            told = rest_by(hall, standing, order)
            self.assertEqual(told, rest_by_sums(hall, standing, order))
            self.assertEqual(rest_by(hall, standing, tuple(order)), told)
            self.assertEqual(rest_by(order=order, standing=standing, hall=hall), told)
            self.assertEqual((type(told), type(told[0]), type(told[1])), (tuple, tuple, list))
            self.assertEqual(restless_by_sums(hall, told[0]), [])
            for person in told[1]:
                later = turned_by_sums(hall, standing, person)
                self.assertNotEqual(later, standing)
                standing = later
            self.assertEqual(standing, told[0])
            turned += len(told[1])
        self.assertGreater(turned, 200)

    def test_all_orders_and_standings_of_few(self):
        draw = Random(118)
        for _ in range(12):
            hall = draw_calm(draw, 3)
            rests = rests_of(hall)
            for standing in standings_of(hall):
                for order in permutations(range(3)):
                    rest, turns = rest_by(hall, standing, list(order))
                    self.assertIn(rest, rests)
                    self.assertEqual(turns == [], standing in rests)

    def test_many_persons(self):
        draw = Random(119)
        hall = draw_calm(draw, 12)
        standing, order = draw_standing(draw, hall), draw_order(draw, hall)
        self.assertEqual(rest_by(hall, standing, order), rest_by_sums(hall, standing, order))

    def test_folded_halls_may_be_handed_in(self):
        draw = Random(120)
        for at in range(30):
            hall = folded(draw_even(draw) if at % 2 else draw_mirrored(draw))
            self.assertIs(is_calm(hall), True)
            standing, order = draw_standing(draw, hall), draw_order(draw, hall)
            self.assertEqual(rest_by(hall, standing, order), rest_by_sums(hall, standing, order))
            self.assertEqual(calm_worth(hall, standing), worth_by_sums(hall, standing))


class AllRests(unittest.TestCase):
    def test_by_hand(self):
        self.assertEqual(rests_of(PAIR), [(0, 0), (1, 2)])
        self.assertEqual(rests_of(CHASE), [])
        self.assertEqual(rests_of(hall=Hall([[0]], [[1]])), [(0,)])

    def test_against_all_standings(self):
        draw = Random(121)
        for at in range(60):
            hall = draw_calm(draw, draw.randint(1, 4)) if at % 2 else draw_hall(draw, draw.randint(1, 4), (1,))
            told = rests_of(hall)
            self.assertEqual(told, [one for one in standings_of(hall) if not restless_by_sums(hall, one)])
            self.assertEqual(told, sorted(told))

    def test_just_1024_standings(self):
        draw = Random(122)
        for tops in ([1] * 10, [3] * 5, [3, 1, 3, 1, 3, 3], [1, 3] + [1] * 7):
            strings = strings_by(draw, [1] * len(tops), False)
            hall = Hall(strings, [draw_steps(draw, top, 9) for top in tops])
            self.assertEqual(len(standings_of(hall)), 1024)
            self.assertEqual(rests_of(hall), [one for one in standings_of(hall) if not restless_by_sums(hall, one)])

    def test_more(self):
        for tops, many in (([4, 4, 4, 4, 1], 1250), ([1] * 11, 2048), ([3] * 4 + [4], 1280), ([4] * 12, 5 ** 12),
                           ([4, 4, 1, 1, 1, 1, 2], 1200)):
            persons = len(tops)
            hall = Hall([[0] * persons] * persons, [range_of_steps(top) for top in tops])
            with self.assertRaises(TooMany) as caught:
                rests_of(hall)
            self.assertEqual(caught.exception.many, many)

    def test_near_1024_on_both_sides(self):
        # 1025 is 5 * 5 * 41 and 1023 3 * 11 * 31: no hall has them; 1000 and 1080 are the nearest told here
        few = Hall([[0] * 6] * 6, [range_of_steps(top) for top in (4, 4, 4, 1, 1, 1)])
        self.assertEqual(rests_of(few), [(0,) * 6])
        many = Hall([[0] * 6] * 6, [range_of_steps(top) for top in (4, 2, 2, 2, 3, 1)])
        with self.assertRaises(TooMany) as caught:
            rests_of(many)
        self.assertEqual(caught.exception.many, 1080)


def range_of_steps(top):
    return list(range(1, top + 1))


class Refusals(unittest.TestCase):
    def test_halls_that_are_not_calm(self):
        draw, refused = Random(123), 0
        halls = [CHASE, Hall([[-1]], [[1]]), Hall([[0, 1], [1, 0]], [[1], [1]], (2,)), Hall([[1]], [[1]], (0, 1))]
        for hall in halls + [draw_hall(draw) for _ in range(60)]:
            if not is_calm(hall):
                standing, order = draw_standing(draw, hall), draw_order(draw, hall)
                self.assertRaises(NotCalm, calm_worth, hall, standing)
                self.assertRaises(NotCalm, rest_by, hall, standing, order)
                refused += 1
        self.assertGreater(refused, 40)

    def test_also_where_nobody_is_restless(self):
        hall = Hall([[0, 1], [0, 0]], [[5], [5]])
        self.assertEqual(restless(hall, (0, 0)), [])
        self.assertRaises(NotCalm, rest_by, hall, (0, 0), [0, 1])


class HandedIn(unittest.TestCase):
    def test_nothing_is_changed_and_told_lists_are_the_askers_own(self):
        draw = Random(124)
        for _ in range(30):
            hall = draw_calm(draw)
            standing, order = draw_standing(draw, hall), draw_order(draw, hall)
            before = deepcopy(order)
            rest = rest_by(hall, standing, order)
            self.assertEqual(order, before)
            told = deepcopy(rest)
            rest[1].append("x")
            self.assertEqual(rest_by(hall, standing, order), told)
            for ask in (lambda: restless(hall, standing), lambda: rests_of(PAIR)):
                first, second = ask(), ask()
                first.append("x")
                self.assertEqual(ask(), second)


if __name__ == "__main__":
    unittest.main()
