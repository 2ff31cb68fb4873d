import unittest
from itertools import combinations
from random import Random

from swayhalls.beats import history, lean
from swayhalls.errors import NotWilling
from swayhalls.folds import folded
from swayhalls.halls import Hall
from swayhalls.rounds import round_at
from swayhalls.willing import fewest_pushes, greatest_rest, is_willing, is_within, least_rest
from tests.draws import draw_hall, draw_held, draw_past, draw_standing
from tests.plain import history_of, pasts_of
from tests.samples import put, put_in

MEMORIES = [(1,), (3,), (1, 2), (0, 1), (2, 0, 1), (0, 0, 0, 1), (1, 1, 1, 1, 1), (0, 0, 0, 0, 2)]
# each is brought up by the one ahead of it
ROW = Hall([[0, 0, 0], [1, 0, 0], [0, 1, 0]], [[1], [1], [1]])


def draw_willing(draw, persons=None):
    """A hall that only pulls up: no string and no weight below 0, or none of both above."""
    persons = draw.randint(1, 5) if persons is None else persons
    side = draw.choice((1, 1, -1))
    strings = [[side * draw.choice((0, 0, 1, 2, 3)) for _ in range(persons)] for _ in range(persons)]
    steps = [sorted(draw.sample(range(-1, 12), draw.randint(1, 4))) for _ in range(persons)]
    return Hall(strings, steps, [side * weight for weight in draw.choice(MEMORIES)])


def rest_by_history(hall, standing, held=()):
    """The last standing of a long history, and the first beat from which on it's so."""
    rows = history_of(hall, [standing] * len(hall.memory()), 300, held)
    begin = len(rows) - 1
    while begin > 0 and rows[begin - 1] == rows[-1]:
        begin -= 1
    assert begin < 250
    return rows[-1], begin


def pushes_by_histories(hall, person):
    others = [one for one in range(len(hall)) if one != person]
    for many in range(len(others) + 1):
        for pushers in combinations(others, many):
            held = [(one, hall.tops()[one]) for one in pushers]
            standing, _ = rest_by_history(hall, (0,) * len(hall), held)
            if standing[person] == hall.tops()[person]:
                return list(pushers)
    return None


class Willing(unittest.TestCase):
    def test_by_hand(self):
        self.assertIs(is_willing(ROW), True)
        self.assertIs(is_willing(hall=Hall([[0, 0], [0, 0]], [[1], [1]], (-1, 3, -2))), True)
        self.assertIs(is_willing(Hall([[-1, -2], [0, -3]], [[1], [1]], (-1, 0, -2))), True)
        self.assertIs(is_willing(Hall([[1, 2], [0, 3]], [[1], [1]], (1, 0, 2))), True)
        self.assertIs(is_willing(Hall([[1, 2], [0, -3]], [[1], [1]], (1, 0, 2))), False)
        self.assertIs(is_willing(Hall([[1, 2], [0, 3]], [[1], [1]], (1, -1, 2))), False)
        self.assertIs(is_willing(Hall([[1, 0], [0, 0]], [[1], [1]], (-1,))), False)

    def test_one_string_or_one_weight_the_other_way(self):
        draw = Random(180)
        for _ in range(80):
            hall = draw_willing(draw)
            self.assertIs(is_willing(hall), True)
            strings, memory = hall.strings(), hall.memory()
            side = 1 if memory[-1] > 0 else -1
            for one in range(len(hall)):
                for other in range(len(hall)):
                    turned = put_in(strings, one, other, -side)
                    self.assertIs(is_willing(Hall(turned, hall.steps(), memory)), False)
            if any(map(any, strings)):
                for at in range(len(memory)):
                    turned = put(memory, at, -side)
                    self.assertIs(is_willing(Hall(strings, hall.steps(), turned)), False)

    def test_drawn(self):
        draw = Random(181)
        for _ in range(100):
            hall = draw_hall(draw, reach=1)
            told = min(weight * string for weight in hall.memory() for row in hall.strings() for string in row) >= 0
            self.assertIs(is_willing(hall), told)

    def test_what_stands_nowhere_less_leans_nowhere_less(self):
        draw = Random(182)
        for _ in range(100):
            hall = draw_willing(draw)
            one, other = draw_past(draw, hall), draw_past(draw, hall)
            low = [tuple(map(min, *pair)) for pair in zip(one, other)]
            self.assertTrue(all(a <= b for a, b in zip(lean(hall, low), lean(hall, other))))


class Rests(unittest.TestCase):
    def test_by_hand(self):
        self.assertEqual(least_rest(ROW), ((0, 0, 0), 0))
        # (1, 1, 1), (0, 1, 1), (0, 0, 1), (0, 0, 0)
        self.assertEqual(greatest_rest(ROW), ((0, 0, 0), 3))
        up = Hall([[0, 0], [1, 0]], [[0], [1]])
        # (0, 0), (1, 0), (1, 1)
        self.assertEqual(least_rest(hall=up), ((1, 1), 2))
        self.assertEqual(greatest_rest(hall=up), ((1, 1), 0))
        # what is remembered is 2 beats ahead: (0, 0) twice, then (1, 0) twice, then (1, 1)
        late = Hall([[0, 0], [1, 0]], [[0], [1]], (0, 1))
        self.assertEqual(least_rest(late), ((1, 1), 4))

    def test_against_histories(self):
        draw, apart, late = Random(183), 0, 0
        for _ in range(250):
            hall = draw_willing(draw)
            low, high = least_rest(hall), greatest_rest(hall)
            self.assertEqual(low, rest_by_history(hall, (0,) * len(hall)))
            self.assertEqual(high, rest_by_history(hall, hall.tops()))
            self.assertEqual([type(low), type(low[0]), type(high), type(high[0])], [tuple] * 4)
            self.assertTrue(all(a <= b for a, b in zip(low[0], high[0])))
            apart += low[0] != high[0]
            late += low[1] > len(hall.memory()) or high[1] > len(hall.memory())
        self.assertGreater(apart, 50)
        self.assertGreater(late, 20)

    def test_the_longest_ways(self):
        """A row of 12 with four steps each, remembered five beats late."""
        strings = [[int(j == i - 1 or (i, j) == (0, 0)) for j in range(12)] for i in range(12)]
        hall = Hall(strings, [[0, 1, 2, 3]] + [[1, 2, 3, 4]] * 11, (0, 0, 0, 0, 1))
        told = least_rest(hall)
        self.assertEqual(told, ((4,) * 12, 5 * 15))
        self.assertEqual(told, rest_by_history(hall, (0,) * 12))
        # one who climbs by itself, step by step, and all others in its wake, one by one and step by step
        slow = [[4 if j == i - 1 else 0 for j in range(12)] for i in range(12)]
        for person in range(12):
            slow[person][person] = 1
        hall = Hall(slow, [[0, 1, 2, 3]] + [[16, 17, 18, 19]] * 11, (0, 0, 0, 0, 1))
        self.assertEqual(least_rest(hall), ((4,) * 12, 5 * 48))
        self.assertEqual(least_rest(hall), rest_by_history(hall, (0,) * 12))

    def test_each_round_lies_between_both(self):
        draw = Random(184)
        for _ in range(120):
            hall = draw_willing(draw)
            low, high = least_rest(hall)[0], greatest_rest(hall)[0]
            for standing in round_at(hall, draw_past(draw, hall), most=1000):
                self.assertIs(is_within(low, high, standing), True)
            rows = history(hall, draw_past(draw, hall), 50)
            first = max(least_rest(hall)[1], greatest_rest(hall)[1])
            self.assertTrue(all(is_within(low, high, standing) for standing in rows[first:]))

    def test_all_pasts_lie_between_at_each_beat(self):
        hall = Hall([[0, 1], [2, 0]], [[1, 2], [2]], (1, 1))
        least = history(hall, [(0, 0)] * 2, 20)
        greatest = history(hall, [hall.tops()] * 2, 20)
        for past in pasts_of(hall):
            for low, high, standing in zip(least, greatest, history(hall, past, 20)):
                self.assertIs(is_within(low, high, standing), True)

    def test_told_halls_of_any_size(self):
        hall = folded(Hall([[2, 1], [1, 0]], [[1], [0, 1, 2, 3]], (1, 0, 2, 0, 1)))
        self.assertEqual(len(hall), 12)
        self.assertEqual(least_rest(hall), rest_by_history(hall, (0,) * 12))
        wide = folded(folded(hall))
        self.assertEqual(least_rest(wide), rest_by_history(wide, (0,) * 48))


class Within(unittest.TestCase):
    def test_by_hand(self):
        self.assertIs(is_within((0, 1), (2, 1), (1, 1)), True)
        self.assertIs(is_within((0, 1), (2, 1), (0, 1)), True)
        self.assertIs(is_within((0, 1), (2, 1), (2, 1)), True)
        self.assertIs(is_within((0, 1), (2, 1), (1, 0)), False)
        self.assertIs(is_within((0, 1), (2, 1), (3, 1)), False)
        self.assertIs(is_within((0, 1), (2, 2), (1, 3)), False)
        self.assertIs(is_within(standing=(1,), low=(1,), high=(0,)), False)

    def test_drawn(self):
        draw, inside = Random(185), 0
        for _ in range(300):
            hall = draw_hall(draw, draw.randint(1, 3))
            low, high, standing = (draw_standing(draw, hall) for _ in range(3))
            told = not any(standing[at] < low[at] or standing[at] > high[at] for at in range(len(hall)))
            self.assertIs(is_within(low, high, standing), told)
            inside += told
        self.assertGreater(inside, 30)


class Pushes(unittest.TestCase):
    def test_by_hand(self):
        self.assertEqual(fewest_pushes(ROW, 2), [0])
        self.assertEqual(fewest_pushes(ROW, 1), [0])
        self.assertIsNone(fewest_pushes(ROW, 0))
        both = Hall([[0, 1, 1, 1], [0, 0, 0, 0], [0, 0, 0, 0], [0, 0, 0, 0]], [[2], [1], [1], [1]])
        self.assertEqual(fewest_pushes(both, 0), [1, 2])
        self.assertEqual(fewest_pushes(person=0, hall=Hall([[0]], [[0]])), [])
        self.assertIsNone(fewest_pushes(Hall([[1]], [[1]]), 0))
        # who is at its top but for one step isn't
        self.assertEqual(fewest_pushes(Hall([[0, 2], [0, 0]], [[0, 2], [1]]), 0), [1])

    def test_against_all_lists(self):
        draw, sizes = Random(186), set()
        for _ in range(150):
            hall = draw_willing(draw)
            for person in range(len(hall)):
                told = fewest_pushes(hall, person)
                self.assertEqual(told, pushes_by_histories(hall, person))
                sizes.add(None if told is None else len(told))
        self.assertGreaterEqual(sizes, {None, 0, 1, 2})

    def test_eight_persons(self):
        strings = [[int(j > 0) for j in range(8)]] + [[0] * 8] * 7
        hall = Hall(strings, [[7]] + [[1]] * 7)
        self.assertEqual(fewest_pushes(hall, 0), [1, 2, 3, 4, 5, 6, 7])
        hall = Hall(strings, [[5]] + [[1]] * 7)
        self.assertEqual(fewest_pushes(hall, 0), [1, 2, 3, 4, 5])
        self.assertIsNone(fewest_pushes(Hall(strings, [[8]] + [[1]] * 7), 0))

    def test_told_lists_are_the_askers_own(self):
        told = fewest_pushes(ROW, 2)
        told.append(9)
        self.assertEqual(fewest_pushes(ROW, 2), [0])
        fewest_pushes(Hall([[0]], [[0]]), 0).append(1)
        self.assertEqual(fewest_pushes(Hall([[0]], [[0]]), 0), [])


class Refusals(unittest.TestCase):
    def test_halls_that_are_not_willing(self):
        draw, refused = Random(187), 0
        for hall in [Hall([[-1]], [[1]]), Hall([[1]], [[1]], (-1,)), Hall([[1]], [[1]], (1, -1))] + [
                draw_hall(draw) for _ in range(40)]:
            if not is_willing(hall):
                self.assertRaises(NotWilling, least_rest, hall)
                self.assertRaises(NotWilling, greatest_rest, hall)
                for person in range(len(hall)):
                    self.assertRaises(NotWilling, fewest_pushes, hall, person)
                refused += 1
        self.assertGreater(refused, 30)

    def test_held_ones_between_both(self):
        """Who is held up can only bring others up."""
        draw = Random(188)
        for _ in range(40):
            hall = draw_willing(draw)
            held = [(one, hall.tops()[one]) for one, _ in draw_held(draw, hall)]
            rows = history(hall, [(0,) * len(hall)] * len(hall.memory()), 260, held=held)
            self.assertTrue(all(a <= b for a, b in zip(least_rest(hall)[0], rows[-1])))


if __name__ == "__main__":
    unittest.main()
