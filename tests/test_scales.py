import unittest
from copy import deepcopy
from functools import reduce
from itertools import permutations, product
from math import gcd
from random import Random

from swayhalls.halls import Hall
from swayhalls.scales import no_scales, pieces_of, scales_of, shows_no_scales, shows_scales
from tests.draws import draw_hall, draw_scales, strings_by
from tests.samples import THINGS, put, put_in


def hall_of(strings, memory=(1,)):
    return Hall(strings, [[1]] * len(strings), memory)


def is_witness(strings, persons, turned):
    """The document's words of [8], for a tuple of unlike persons of the hall."""
    if len(persons) == 1:
        return turned and strings[persons[0]][persons[0]] != 0
    if len(persons) == 2:
        i, j = persons
        one, other = strings[i][j], strings[j][i]
        if (one == 0) != (other == 0):
            return True
        if turned:
            return (one > 0 and other > 0) or (one < 0 and other < 0)
        return (one > 0 and other < 0) or (one < 0 and other > 0)
    there = back = 1
    for at, one in enumerate(persons):
        other = persons[(at + 1) % len(persons)]
        there, back = there * strings[one][other], back * strings[other][one]
    return there != (-back if turned and len(persons) % 2 else back)


def do_fit(strings, scales, turned):
    for i, j in product(range(len(strings)), repeat=2):
        much = scales[j] * strings[j][i]
        if scales[i] * strings[i][j] != (-much if turned else much):
            return False
    return True


def witnesses(strings):
    return [some for many in range(1, len(strings) + 1) for some in permutations(range(len(strings)), many)]


class Pieces(unittest.TestCase):
    def test_by_hand(self):
        self.assertEqual(pieces_of(hall_of([[0]])), [[0]])
        self.assertEqual(pieces_of(hall_of([[5]])), [[0]])
        self.assertEqual(pieces_of(hall_of([[0] * 4] * 4)), [[0], [1], [2], [3]])
        self.assertEqual(pieces_of(hall_of([[1, 0], [0, -1]])), [[0], [1]])

    def test_strings_one_way_only(self):
        for strings in ([[0, 1], [0, 0]], [[0, 0], [1, 0]], [[0, -9], [0, 0]], [[0, 1], [-1, 0]]):
            self.assertEqual(pieces_of(hall=hall_of(strings)), [[0, 1]])
        self.assertEqual(pieces_of(hall_of([[0, 1, 0], [0, 0, 0], [0, 1, 0]])), [[0, 1, 2]])

    def test_by_their_least_ones(self):
        strings = [[0] * 6 for _ in range(6)]
        strings[5][0], strings[1][3], strings[4][1] = 2, -3, 1
        self.assertEqual(pieces_of(hall_of(strings)), [[0, 5], [1, 3, 4], [2]])

    def test_long_ways(self):
        order = [7, 2, 11, 0, 5, 9, 1, 10, 3, 8, 4, 6]
        strings = [[0] * 12 for _ in range(12)]
        for at, (one, other) in enumerate(zip(order, order[1:])):
            strings[one][other] = at + 1
        self.assertEqual(pieces_of(hall_of(strings)), [list(range(12))])
        strings[0][5] = 0
        self.assertEqual(pieces_of(hall_of(strings)), [[0, 2, 7, 11], [1, 3, 4, 5, 6, 8, 9, 10]])

    def test_against_joining(self):
        draw = Random(50)
        for _ in range(150):
            persons = draw.randint(1, 9)
            strings = [[draw.choice((0, 0, 0, 0, 0, 0, 1, -2)) for _ in range(persons)] for _ in range(persons)]
            group = list(range(persons))
            for i, j in product(range(persons), repeat=2):
                if strings[i][j] != 0:
                    old, new = max(group[i], group[j]), min(group[i], group[j])
                    group = [new if one == old else one for one in group]
            told = [[i for i in range(persons) if group[i] == least] for least in sorted(set(group))]
            self.assertEqual(pieces_of(hall_of(strings)), told)

    def test_told_lists_are_the_askers_own(self):
        hall = hall_of([[0] * 3] * 3)
        told = pieces_of(hall)
        told[0].append(9)
        told.clear()
        self.assertEqual(pieces_of(hall), [[0], [1], [2]])


class Scales(unittest.TestCase):
    def test_by_hand(self):
        self.assertEqual(scales_of(hall_of([[7]])), [1])
        self.assertEqual(scales_of(hall_of([[0, 2], [3, 0]])), [3, 2])
        self.assertEqual(scales_of(hall_of([[0, -2], [-3, 5]])), [3, 2])
        self.assertEqual(scales_of(hall_of([[0, 2], [-3, 0]]), turned=True), [3, 2])
        self.assertEqual(scales_of(hall_of([[0, 4], [6, 0]])), [3, 2])
        self.assertEqual(scales_of(hall_of([[0, 1], [1, 0]])), [1, 1])
        self.assertEqual(scales_of(hall_of([[0, 2, 0], [3, 0, 5], [0, 7, 0]])), [21, 14, 10])
        self.assertEqual(scales_of(hall_of([[0, 2, 0], [-3, 0, -5], [0, 7, 0]]), turned=True), [21, 14, 10])

    def test_lowest_terms_piece_by_piece(self):
        strings = [[0, 0, 4, 0], [0, 0, 0, 9], [2, 0, 0, 0], [0, 3, 0, 0]]
        self.assertEqual(scales_of(hall_of(strings)), [1, 1, 2, 3])
        self.assertEqual(scales_of(hall_of([[9, 0, 0], [0, 0, 8], [0, 12, -9]])), [1, 3, 2])

    def test_strings_all_0_are_both(self):
        for persons in (1, 2, 5, 12):
            hall = hall_of([[0] * persons] * persons)
            for turned in (False, True):
                self.assertEqual(scales_of(hall, turned=turned), [1] * persons)
                self.assertIsNone(no_scales(hall, turned=turned))

    def test_none_the_other_way(self):
        self.assertIsNone(scales_of(hall_of([[0, 2], [3, 0]]), turned=True))
        self.assertIsNone(scales_of(hall_of([[0, 2], [-3, 0]])))
        self.assertIsNone(scales_of(hall_of([[1]]), turned=True))
        self.assertIsNone(scales_of(hall_of([[0, 1, 1], [1, 0, 1], [1, 2, 0]])))

    def test_of_drawn_scales(self):
        draw = Random(51)
        for _ in range(400):
            persons, turned = draw.randint(1, 12), draw.random() < 0.5
            drawn = draw_scales(draw, persons, 12)
            hall = hall_of(strings_by(draw, drawn, turned, 5, draw.choice((0.1, 0.3, 0.9))))
            told = scales_of(hall, turned=turned)
            self.assertTrue(do_fit(hall.strings(), told, turned))
            self.assertIsNone(no_scales(hall, turned=turned))
            for piece in pieces_of(hall):
                self.assertEqual(reduce(gcd, [told[i] for i in piece]), 1)
                common = reduce(gcd, [drawn[i] for i in piece])
                self.assertEqual([told[i] for i in piece], [drawn[i] // common for i in piece])

    def test_of_great_numbers(self):
        # a chain in which each scale is 97/98 of the one ahead
        strings = [[0] * 12 for _ in range(12)]
        for i in range(11):
            strings[i][i + 1], strings[i + 1][i] = 97, 98
        self.assertEqual(scales_of(hall_of(strings)), [98 ** (11 - i) * 97 ** i for i in range(12)])
        for i in range(11):
            strings[i + 1][i] = -98
        self.assertEqual(scales_of(hall_of(strings), turned=True), [98 ** (11 - i) * 97 ** i for i in range(12)])
        great = 10 ** 500
        self.assertEqual(scales_of(hall_of([[0, great + 1], [great, 0]])), [great, great + 1])

    def test_kinds_of_what_is_told(self):
        hall = hall_of([[0, 2], [3, 0]])
        told = scales_of(hall)
        self.assertIs(type(told), list)
        self.assertEqual([type(one) for one in told], [int, int])
        told.clear()
        self.assertEqual(scales_of(hall=hall, turned=False), [3, 2])

    def test_turned_by_its_name_alone(self):
        for ask in (scales_of, no_scales):
            self.assertRaises(TypeError, ask, hall_of([[0]]), False)
        for ask in (shows_scales, shows_no_scales):
            self.assertRaises(TypeError, ask, hall_of([[0]]), [1], False)


# strings without scales, whether turned, how many persons are the fewest to show it
WITHOUT = [
    ([[1]], True, 1), ([[-3]], True, 1), ([[0, 2], [-3, 4]], True, 1),
    ([[0, 1], [0, 0]], False, 2), ([[0, 0], [-1, 0]], False, 2), ([[0, 1], [-1, 0]], False, 2),
    ([[0, 1], [0, 0]], True, 2), ([[0, 0], [-1, 0]], True, 2), ([[0, 1], [1, 0]], True, 2),
    ([[0, -2], [-1, 0]], True, 2),
    ([[0, 1, 1], [1, 0, 1], [1, 2, 0]], False, 3), ([[5, 2, 3], [1, -5, 1], [1, 1, 0]], False, 3),
    ([[0, 1, -1], [-1, 0, 1], [2, -1, 0]], True, 3),
    ([[0, 1, 0, 1], [1, 0, 1, 0], [0, 1, 0, 1], [2, 0, 1, 0]], False, 4),
    ([[0, 1, 0, -1], [-1, 0, 1, 0], [0, -1, 0, 1], [2, 0, -1, 0]], True, 4),
    ([[0, 3, 0, 0, 1], [1, 0, 1, 0, 0], [0, 1, 0, 1, 0], [0, 0, 1, 0, 1], [1, 0, 0, 1, 0]], False, 5),
    ([[0, 3, 0, 0, 1], [-1, 0, 1, 0, 0], [0, -1, 0, 1, 0], [0, 0, -1, 0, 1], [-1, 0, 0, -1, 0]], True, 5),
]


def ring(persons, odd, turned):
    """A ring of that many persons in which one string is otherwise."""
    strings = [[0] * persons for _ in range(persons)]
    for i in range(persons):
        strings[i][(i + 1) % persons], strings[(i + 1) % persons][i] = 2, -3 if turned else 3
        if i % 2:
            strings[i][(i + 1) % persons], strings[(i + 1) % persons][i] = 3, -2 if turned else 2
    strings[odd][(odd + 1) % persons] += 1
    return strings


class NoScales(unittest.TestCase):
    def check_none(self, hall, turned):
        told = no_scales(hall, turned=turned)
        self.assertIsNone(scales_of(hall, turned=turned))
        self.assertIs(type(told), tuple)
        self.assertEqual(len(set(told)), len(told))
        self.assertTrue(set(told) <= set(range(len(hall))))
        self.assertTrue(is_witness(hall.strings(), told, turned))
        self.assertIs(shows_no_scales(hall, told, turned=turned), True)
        return told

    def test_by_hand(self):
        for strings, turned, many in WITHOUT:
            told = self.check_none(hall_of(strings), turned)
            shortest = min(len(some) for some in witnesses(strings) if is_witness(strings, some, turned))
            self.assertEqual(shortest, many)
            self.assertGreaterEqual(len(told), many)

    def test_rings_of_all_sizes(self):
        for persons in (4, 6, 8, 10, 12):
            for turned in (False, True):
                for odd in range(persons):
                    self.assertEqual(len(self.check_none(hall_of(ring(persons, odd, turned)), turned)), persons)

    def test_a_ring_hanging_on_a_chain(self):
        draw = Random(52)
        for _ in range(100):
            turned = draw.random() < 0.5
            strings = strings_by(draw, draw_scales(draw, 9), turned, 5, 0.4)
            i, j = draw.sample(range(9), 2)
            strings[i][j] += draw.choice((-1, 1, 7))
            hall = hall_of(strings)
            if scales_of(hall, turned=turned) is None:
                self.check_none(hall, turned)
            else:
                self.assertIsNone(no_scales(hall, turned=turned))

    def test_just_one_of_both(self):
        draw = Random(53)
        halls = [hall_of(strings) for strings, _, _ in WITHOUT]
        for persons in (1, 2, 3, 4):
            for _ in range(60):
                choice = draw.choice(((0, 1), (0, 1, -1), (1, 2), (0, 0, 1, -1), (-2, -1, 1, 2)))
                halls.append(hall_of([[draw.choice(choice) for _ in range(persons)] for _ in range(persons)]))
                halls.append(hall_of(strings_by(draw, draw_scales(draw, persons, 3), persons % 2 == 0, 2)))
        for hall in halls:
            for turned in (False, True):
                self.check_one_of_both(hall, turned)

    def check_one_of_both(self, hall, turned):
        strings, scales, persons = hall.strings(), scales_of(hall, turned=turned), no_scales(hall, turned=turned)
        self.assertNotEqual(scales is None, persons is None)
        found = False
        for some in witnesses(strings):
            told = is_witness(strings, some, turned)
            self.assertIs(shows_no_scales(hall, some, turned=turned), told)
            found = found or told
        self.assertEqual(found, scales is None)
        for some in product(range(1, 4), repeat=len(hall)):
            told = do_fit(strings, some, turned)
            self.assertIs(shows_scales(hall, list(some), turned=turned), told)
            self.assertFalse(told and scales is None)

    def test_drawn_halls_have_just_one(self):
        draw = Random(54)
        for _ in range(150):
            hall = draw_hall(draw, draw.randint(1, 12))
            for turned in (False, True):
                scales, persons = scales_of(hall, turned=turned), no_scales(hall=hall, turned=turned)
                self.assertNotEqual(scales is None, persons is None)
                self.assertIs(shows_scales(hall, scales, turned=turned), scales is not None)
                self.assertIs(shows_no_scales(hall, persons, turned=turned), persons is not None)


class ShownScales(unittest.TestCase):
    HALL = hall_of([[0, 2, 0], [3, 0, 5], [0, 7, 0]])
    TURNED = hall_of([[0, 2, 0], [-3, 0, -5], [0, 7, 0]])
    SCALES = [21, 14, 10]

    def check(self, told, thing, hall=None):
        hall, before = hall or self.HALL, deepcopy(thing)
        self.assertIs(shows_scales(hall, thing), told, thing)
        self.assertIs(shows_scales(thing=thing, hall=hall, turned=False), told, thing)
        self.assertEqual(repr(thing), repr(before))

    def test_multiples(self):
        for times in (1, 2, 3, 99, 10 ** 40):
            self.check(True, [times * scale for scale in self.SCALES])
            self.assertIs(shows_scales(self.TURNED, [times * scale for scale in self.SCALES], turned=True), True)
            self.check(False, [-times * scale for scale in self.SCALES])

    def test_pieces_by_themselves(self):
        hall = hall_of([[0, 1, 0], [1, 0, 0], [0, 0, 5]])
        for scales in ([1, 1, 1], [7, 7, 2], [1, 1, 10 ** 9]):
            self.check(True, scales, hall)
        for scales in ([1, 2, 1], [1, 1, 0], [1, 1, -1], [0, 0, 1], [-1, -1, 1]):
            self.check(False, scales, hall)

    def test_one_number_otherwise(self):
        for at in range(3):
            for new in (self.SCALES[at] + 1, self.SCALES[at] - 1, 0, -self.SCALES[at], 2 * self.SCALES[at], 1):
                self.check(False, put(self.SCALES, at, new))

    def test_0_and_below(self):
        self.check(False, [0, 0, 0])
        nobody = hall_of([[0, 0], [0, 0]])
        self.check(True, [5, 3], nobody)
        for scales in ([0, 0], [0, 1], [1, 0], [-1, 1], [1, -1], [-1, -1]):
            self.check(False, scales, nobody)
            self.assertIs(shows_scales(nobody, scales, turned=True), False)

    def test_other_kinds(self):
        self.check(False, tuple(self.SCALES))
        for thing in THINGS:
            self.check(False, thing)
        for thing in ([21, 14], [21, 14, 10, 1], [], [self.SCALES], [21, 14, [10]], [21, 14, (10,)], [21, 14, "10"],
                      [21, 14, None], [True, 14, 10], "21 14 10", [[21], [14], [10]]):
            self.check(False, thing)
        one = hall_of([[4]])
        self.check(True, [1], one)
        for thing in ([True], [False], ["1"], [None], (1,), 1, True, "1", [[1]], [1, 1], [0]):
            self.check(False, thing, one)

    def test_the_other_way(self):
        self.assertIs(shows_scales(self.HALL, self.SCALES, turned=True), False)
        self.assertIs(shows_scales(self.TURNED, self.SCALES), False)
        self.assertIs(shows_scales(hall_of([[1]]), [1], turned=True), False)
        self.assertIs(shows_scales(hall_of([[0]]), [1], turned=True), True)


class ShownPersons(unittest.TestCase):
    def check(self, told, hall, thing, turned):
        before = deepcopy(thing)
        self.assertIs(shows_no_scales(hall, thing, turned=turned), told, thing)
        self.assertIs(shows_no_scales(thing=thing, hall=hall, turned=turned), told, thing)
        self.assertEqual(repr(thing), repr(before))

    def test_turned_round_and_read_backwards(self):
        for strings, turned, _ in WITHOUT:
            hall = hall_of(strings)
            told = no_scales(hall, turned=turned)
            for at in range(len(told)):
                round_told = told[at:] + told[:at]
                self.check(True, hall, round_told, turned)
                self.check(True, hall, round_told[::-1], turned)
                self.check(False, hall, list(round_told), turned)
                self.check(False, hall, [round_told], turned)
                self.check(False, hall, (round_told,), turned)

    def test_persons_twice(self):
        for strings, turned, _ in WITHOUT:
            hall = hall_of(strings)
            told = no_scales(hall, turned=turned)
            for thing in (told + told, told + told[:1], told[:1] + told, told[:1] * 2, told[:1] * 3, told * 300):
                self.check(False, hall, thing, turned)

    def test_persons_who_are_not_there(self):
        for strings, turned, _ in WITHOUT:
            hall = hall_of(strings)
            told = no_scales(hall, turned=turned)
            for at in range(len(told)):
                for no in (-1, -len(hall), len(hall), told[at] - len(hall), 10 ** 30, None, "0", "", True, False, [0],
                           (0,)):
                    self.check(False, hall, tuple(put(told, at, no)), turned)

    def test_truths_are_no_persons(self):
        hall = hall_of([[0, 1], [0, 0]])
        self.check(True, hall, (0, 1), False)
        for thing in ((False, True), (0, True), (False, 1), (True, 0)):
            self.check(False, hall, thing, False)
        self.check(False, hall_of([[1]]), (False,), True)

    def test_other_things(self):
        for strings, turned, _ in WITHOUT:
            hall = hall_of(strings)
            for thing in THINGS + [(0,) * 3, tuple(range(4000))]:
                told = isinstance(thing, tuple) and 0 < len(thing) == len(set(map(repr, thing))) and all(
                    type(one) is int and 0 <= one < len(hall) for one in thing) and is_witness(strings, thing, turned)
                self.check(told, hall, thing, turned)
            self.check(False, hall, (), turned)

    def test_one_person_where_strings_are_to_be_turned(self):
        hall = hall_of([[2, 0], [0, 0]])
        self.check(True, hall, (0,), True)
        self.check(False, hall, (1,), True)
        self.check(False, hall, (0,), False)

    def test_rings_of_odd_and_even_many_that_are_to_be_turned(self):
        # three that are turned by scales of 1: what comes of both ways is on other sides of 0
        three = [[0, 1, -1], [-1, 0, 1], [1, -1, 0]]
        self.check(False, hall_of(three), (0, 1, 2), True)
        self.check(True, hall_of(three), (0, 1, 2), False)
        self.check(True, hall_of(put_in(three, 0, 1, 2)), (0, 1, 2), True)
        four = [[0, 1, 0, -1], [-1, 0, 1, 0], [0, -1, 0, 1], [1, 0, -1, 0]]
        self.check(False, hall_of(four), (0, 1, 2, 3), True)
        self.check(False, hall_of(four), (0, 1, 2, 3), False)
        self.check(True, hall_of(put_in(four, 0, 1, 2)), (0, 1, 2, 3), True)

    def test_a_ring_that_is_open_one_way(self):
        # 0 pulls at 2, 2 not at 0: one way round comes 0, the other way not
        hall = hall_of([[0, 1, 0], [1, 0, 1], [1, 1, 0]])
        for persons in ((0, 1, 2), (2, 1, 0), (0, 2), (2, 0)):
            self.check(True, hall, persons, False)
        for persons in ((0, 1), (1, 2), (0,)):
            self.check(False, hall, persons, False)


if __name__ == "__main__":
    unittest.main()
