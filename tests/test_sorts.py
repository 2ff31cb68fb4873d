import unittest
from copy import deepcopy
from random import Random

from swayhalls.beats import history
from swayhalls.errors import NotLike, NotSorts
from swayhalls.folds import folded
from swayhalls.halls import Hall
from swayhalls.kinds import word_of
from swayhalls.sorts import are_sorts, lesser, level_of, sorts_of, told_small, told_wide
from tests.draws import WEIGHTS, draw_even, draw_hall, draw_mirrored, draw_past, draw_standing
from tests.plain import history_of
from tests.samples import THINGS, put, put_in

# 0 and 2 are alike, 1 and 3 are, 4 is by itself
ALIKE = Hall([[1, 2, 0, 1, 5], [4, 0, 0, 1, 6], [0, 0, 1, 3, 5], [2, 1, 2, 0, 6], [7, 8, 9, 1, 0]],
             [[1], [2], [1], [2], [1]], [1, 2])
SORTS = [[0, 2], [1, 3], [4]]


def partings(persons):
    """All ways to part these persons into lists, each rising, by their least ones."""
    if not persons:
        yield []
        return
    *others, last = persons
    for lists in partings(others):
        for at in range(len(lists)):
            yield put(lists, at, lists[at] + [last])
        yield lists + [[last]]


def are_sorts_by_words(hall, lists):
    for own in lists:
        for person in own:
            if hall.steps()[person] != hall.steps()[own[0]]:
                return False
            for other in lists:
                sums = [sum(hall.strings()[one][by] for by in other) for one in (person, own[0])]
                if sums[0] != sums[1]:
                    return False
    return True


def levels_by_words(hall, many):
    """For each level a set of the pairs of persons who are in one list."""
    persons = range(len(hall))
    levels = [{(one, other) for one in persons for other in persons if hall.steps()[one] == hall.steps()[other]}]
    for _ in range(many):
        ahead = levels[-1]
        lists = {tuple(other for other in persons if (one, other) in ahead) for one in persons}
        levels.append({(one, other) for one, other in ahead if all(
            sum(hall.strings()[one][by] for by in told) == sum(hall.strings()[other][by] for by in told)
            for told in lists)})
    return levels


def draw_parting(draw, persons):
    lists = []
    for person in range(persons):
        at = draw.randint(0, len(lists))
        lists = lists + [[person]] if at == len(lists) else put(lists, at, lists[at] + [person])
    return lists


def draw_thin(draw, most):
    """A hall of few strings and steps, so that some persons may be alike."""
    persons = draw.randint(1, most)
    strings = [[draw.choice((0, 0, 0, 1)) for _ in range(persons)] for _ in range(persons)]
    return Hall(strings, [[draw.choice((1, 1, 1, 2))] for _ in range(persons)], draw.choice(WEIGHTS))


def split_sum(draw, much, many):
    """So many numbers that together are that much."""
    parts = [draw.randint(-3, 3) for _ in range(many - 1)]
    return parts + [much - sum(parts)]


def wide_hall(draw, small, sorts):
    """A hall of which that one is the lesser, by these sorts."""
    persons = sum(map(len, sorts))
    strings, steps = [[0] * persons for _ in range(persons)], [None] * persons
    for a, own in enumerate(sorts):
        for person in own:
            steps[person] = small.steps()[a]
            for b, others in enumerate(sorts):
                for other, much in zip(others, split_sum(draw, small.strings()[a][b], len(others))):
                    strings[person][other] = much
    return Hall(strings, steps, small.memory())


def drawn(seed, many):
    """Halls with sorts that they have, and the lesser halls."""
    draw = Random(seed)
    for _ in range(many):
        sorts = draw_parting(draw, draw.randint(1, 7))
        small = draw_hall(draw, len(sorts), reach=4)
        yield draw, wide_hall(draw, small, sorts), sorts, small


class Are(unittest.TestCase):
    def check(self, told, hall, thing):
        before = repr(thing)
        self.assertIs(are_sorts(hall, thing), told, thing)
        self.assertIs(are_sorts(thing=thing, hall=hall), told, thing)
        self.assertEqual(repr(thing), before)

    def test_by_hand(self):
        self.check(True, ALIKE, SORTS)
        self.check(True, ALIKE, [[0], [1], [2], [3], [4]])
        for lists in ([[0, 2], [1], [3], [4]], [[0], [2], [1, 3], [4]], [[0, 2, 4], [1, 3]], [[0, 1, 2, 3, 4]],
                      [[0, 2], [1, 3], [4], []], [[], [0, 2], [1, 3], [4]], [[1, 3], [0, 2], [4]], [[2, 0], [1, 3], [4]],
                      [[0, 2], [4], [1, 3]], [[0, 2], [1, 3]], [[0, 2], [1, 3], [4], [5]], [[0, 2], [1, 3], [4, 4]],
                      [[0, 0, 2], [1, 3], [4]], [[0, 2], [1, 2, 3], [4]], [[-1], [0, 2], [1, 3], [4]], [0, 1, 2, 3, 4],
                      [[0, 2], [1, 3], 4], [[0, 2], [1, 3], [[4]]], [], [[]], [[0, 2], [1, 3], ["4"]],
                      [[False, 2], [1, 3], [4]], [[0, 2], [True, 3], [4]], [[0, 2], [1, 3], [None]], SORTS + SORTS):
            self.check(False, ALIKE, lists)
        self.check(False, ALIKE, tuple(SORTS))
        self.check(False, ALIKE, [tuple(persons) for persons in SORTS])
        self.check(False, ALIKE, [[0, 2], (1, 3), [4]])

    def test_things_of_any_kind(self):
        for thing in THINGS:
            self.check(False, ALIKE, thing)
            self.check(False, Hall([[1]], [[1]]), thing)
        self.check(True, Hall([[1]], [[1]]), [[0]])
        for thing in ([0], [(0,)], ([0],), [[False]], [[0, 0]], [[0], [0]], [[1]], [[-1]], [["0"]], [[[0]]], "0", 0):
            self.check(False, Hall([[1]], [[1]]), thing)

    def test_lists_that_do_not_rise_behind_their_first(self):
        hall = Hall([[0] * 4] * 4, [[1]] * 4)
        self.check(True, hall, [[0, 1, 2, 3]])
        self.check(True, hall, [[0, 3], [1, 2]])
        for lists in ([[0, 2, 1, 3]], [[0, 1, 3, 2]], [[0], [1, 3, 2]], [[0, 3, 2], [1]], [[3, 2, 1, 0]], [[0, 1, 1, 2, 3]]):
            self.check(False, hall, lists)
            self.assertRaises(NotSorts, lesser, hall, lists)

    def test_against_words(self):
        draw, found = Random(150), 0
        for _ in range(300):
            hall = draw_thin(draw, 4)
            for lists in partings(list(range(len(hall)))):
                told = are_sorts_by_words(hall, lists)
                self.check(told, hall, lists)
                found += told and len(lists) < len(hall)
        self.assertGreater(found, 20)

    def test_sorts_and_these_with_one_thing_otherwise(self):
        for draw, hall, sorts, _ in drawn(151, 120):
            self.check(True, hall, sorts)
            long = [persons for persons in sorts if len(persons) > 1]
            if not long:
                continue
            person, other = draw.choice(long)[-1], draw.randrange(len(hall))
            much = hall.strings()[person][other]
            self.check(False, Hall(put_in(hall.strings(), person, other, much + 1), hall.steps(), hall.memory()), sorts)
            steps = put(hall.steps(), person, [step + 1 for step in hall.steps()[person]])
            self.check(False, Hall(hall.strings(), steps, hall.memory()), sorts)


class Fewest(unittest.TestCase):
    def test_by_hand(self):
        self.assertEqual(sorts_of(ALIKE), SORTS)
        self.assertEqual(sorts_of(hall=Hall([[0, 1], [1, 0]], [[1], [1]])), [[0, 1]])
        self.assertEqual(sorts_of(Hall([[0, 1], [1, 0]], [[1], [2]])), [[0], [1]])
        self.assertEqual(sorts_of(Hall([[0, 1], [0, 0]], [[1], [1]])), [[0], [1]])
        self.assertEqual(sorts_of(Hall([[5]], [[1]])), [[0]])

    def test_against_all_partings(self):
        draw, less = Random(152), 0
        halls = [draw_thin(draw, 5) for _ in range(150)]
        halls += [hall for _, hall, _, _ in drawn(153, 60) if len(hall) <= 6]
        for hall in halls:
            right = [lists for lists in partings(list(range(len(hall)))) if are_sorts_by_words(hall, lists)]
            fewest = min(map(len, right))
            first, = [lists for lists in right if len(lists) == fewest]
            told = sorts_of(hall)
            self.assertEqual(told, first)
            self.assertIs(are_sorts(hall, told), True)
            less += len(told) < len(hall)
        self.assertGreater(less, 40)

    def test_great_halls(self):
        ring = Hall([[int((i - j) % 12 == 1) for j in range(12)] for i in range(12)], [[1]] * 12)
        self.assertEqual(sorts_of(ring), [list(range(12))])
        wide = folded(Hall([[1]], [[1]], (1, 1, 1, 1)))
        self.assertEqual(sorts_of(wide), [[0, 1, 2, 3, 4]])

    def test_told_lists_are_the_askers_own(self):
        told = sorts_of(ALIKE)
        told[0].append(9)
        told.pop()
        self.assertEqual(sorts_of(ALIKE), SORTS)


class Lesser(unittest.TestCase):
    def test_by_hand(self):
        told = lesser(ALIKE, SORTS)
        self.assertEqual(told, Hall([[1, 3, 5], [4, 1, 6], [16, 9, 0]], [[1], [2], [1]], [1, 2]))
        self.assertEqual(lesser(ALIKE, [[0], [1], [2], [3], [4]]), ALIKE)

    def test_drawn(self):
        for _, hall, sorts, small in drawn(154, 150):
            before = deepcopy(sorts)
            self.assertEqual(lesser(hall, sorts), small)
            self.assertEqual(lesser(hall, tuple(tuple(persons) for persons in sorts)), small)
            self.assertEqual(lesser(hall, tuple(sorts)), small)
            self.assertEqual(lesser(sorts=[tuple(persons) for persons in sorts], hall=hall), small)
            self.assertEqual(sorts, before)

    def test_of_the_fewest_nobody_is_alike(self):
        for _, hall, _, _ in drawn(155, 60):
            small = lesser(hall, sorts_of(hall))
            self.assertEqual(sorts_of(small), [[person] for person in range(len(small))])

    def test_refused(self):
        for lists in ([], [[]], [[0, 2], [1], [3], [4]], [[0, 2, 4], [1, 3]], [[1, 3], [0, 2], [4]], [[2, 0], [1, 3], [4]],
                      [[0, 2], [1, 3]], [[0, 2], [1, 3], [4], [5]], [[0, 2], [1, 3], [4], []], [[-5, 2], [1, 3], [4]],
                      [[0, 2], [1, 3], [4], [4]], [[10 ** 30]], [[0, 1, 2, 3, 4]], [[0, 0, 2], [1, 3], [4]], [[-1]],
                      [[0, 2], [1, 3], [4, 5]]):
            for told in (lists, tuple(lists), [tuple(persons) for persons in lists]):
                self.assertRaises(NotSorts, lesser, ALIKE, told)

    def test_kinds_stay(self):
        """A lesser hall is even where the hall is, mirrored or even where it's mirrored."""
        draw, less = Random(156), {"even": 0, "mirrored": 0}
        for at in range(300):
            hall = doubled(draw_even(draw, draw.randint(1, 3)) if at % 2 else draw_mirrored(draw))
            word, told = word_of(hall), sorts_of(hall)
            self.assertLess(len(told), len(hall))
            self.assertIn(word_of(lesser(hall, told)), {"even": ("even",), "mirrored": ("even", "mirrored")}[word])
            less[word] += 1
        self.assertGreater(min(less.values()), 50)


def doubled(hall):
    """The hall twice, the one's persons joined to each other's like ones as to their own."""
    strings = [list(row) + list(row) for row in hall.strings()] * 2
    steps = hall.steps()
    if word_of(hall) == "mirrored":
        middles = [sum(hall.memory()) * sum(s * t for s, t in zip(row, hall.tops())) for row in hall.strings()]
        # each one's pull is twice as much: steps are moved so that they are balanced by it again
        steps = [[step + middle // 2 for step in row] if middle % 2 == 0 else None
                 for row, middle in zip(steps, middles)]
        if None in steps:
            return Hall([list(row) + [0] * len(hall) for row in hall.strings()]
                        + [[0] * len(hall) + list(row) for row in hall.strings()], hall.steps() * 2, hall.memory())
    return Hall(strings, list(steps) * 2, hall.memory())


class Standings(unittest.TestCase):
    def test_by_hand(self):
        self.assertEqual(told_small((1, 0, 1, 0, 1), SORTS), (1, 0, 1))
        self.assertEqual(told_wide((1, 0, 1), SORTS), (1, 0, 1, 0, 1))
        self.assertEqual(told_small(sorts=((0, 2), (1, 3), (4,)), standing=(0, 1, 0, 1, 0)), (0, 1, 0))
        self.assertEqual(told_wide(sorts=((0, 2), [1, 3], (4,)), standing=(0, 1, 0)), (0, 1, 0, 1, 0))

    def test_there_and_back(self):
        for draw, hall, sorts, small in drawn(157, 120):
            standing = draw_standing(draw, small)
            wide = told_wide(standing, sorts)
            self.assertEqual([type(wide), len(wide)], [tuple, len(hall)])
            for at, persons in enumerate(sorts):
                self.assertEqual([wide[person] for person in persons], [standing[at]] * len(persons))
            self.assertEqual(told_small(wide, sorts), standing)
            self.assertIs(type(told_small(wide, sorts)), tuple)

    def test_the_first_list_whose_persons_stand_unlike(self):
        for standing, at in (((1, 0, 0, 0, 1), 0), ((1, 0, 1, 1, 1), 1), ((0, 1, 1, 0, 0), 0), ((0, 1, 0, 0, 1), 1)):
            with self.assertRaises(NotLike) as caught:
                told_small(standing, SORTS)
            self.assertEqual(caught.exception.at, at)

    def test_not_like_drawn(self):
        refused = 0
        for draw, hall, sorts, _ in drawn(158, 200):
            standing = draw_standing(draw, hall)
            unlike = [at for at, persons in enumerate(sorts) if len({standing[one] for one in persons}) > 1]
            if unlike:
                with self.assertRaises(NotLike) as caught:
                    told_small(standing, sorts)
                self.assertEqual(caught.exception.at, unlike[0])
                refused += 1
        self.assertGreater(refused, 50)

    def test_histories_go_alike(self):
        """Promised above all, [1] (e)."""
        for draw, hall, sorts, small in drawn(159, 120):
            past = draw_past(draw, small)
            held = [(at, draw.randint(0, top)) for at, top in enumerate(small.tops()) if draw.random() < 0.2]
            wide_held = [(person, posture) for at, posture in held for person in sorts[at]]
            narrow = history(small, past, 30, held=held)
            wide = history(hall, [told_wide(one, sorts) for one in past], 30, held=wide_held)
            self.assertEqual([told_small(one, sorts) for one in wide], narrow)
            self.assertEqual(wide, [told_wide(one, sorts) for one in narrow])
            self.assertEqual(narrow, history_of(small, past, 30, held))


class Levels(unittest.TestCase):
    def test_by_hand(self):
        self.assertIsNone(level_of(ALIKE, 0, 2))
        self.assertIsNone(level_of(ALIKE, 3, 1))
        self.assertIsNone(level_of(ALIKE, 4, 4))
        self.assertEqual(level_of(ALIKE, 0, 1), 0)
        # 0 and 4 have the same steps, but other sums of strings
        self.assertEqual(level_of(ALIKE, 0, 4), 1)
        self.assertEqual(level_of(hall=ALIKE, other=0, one=4), 1)

    def test_rows_of_persons_each_pulled_by_the_next(self):
        for many in range(1, 13):
            row = Hall([[int(j == i + 1) for j in range(many)] for i in range(many)], [[1]] * many)
            for one in range(many):
                for other in range(many):
                    # the one nearer to the end is told at once where the other still has somebody behind it
                    told = None if one == other else many - max(one, other)
                    self.assertEqual(level_of(row, one, other), told)

    def test_unlike_steps(self):
        draw = Random(160)
        for _ in range(40):
            hall = draw_hall(draw, 4)
            for one in range(4):
                for other in range(4):
                    if hall.steps()[one] != hall.steps()[other]:
                        self.assertEqual(level_of(hall, one, other), 0)

    def test_against_words(self):
        draw, found = Random(161), set()
        for hall in [draw_thin(draw, 6) for _ in range(120)] + [hall for _, hall, _, _ in drawn(162, 60)]:
            levels = levels_by_words(hall, len(hall) + 1)
            for one in range(len(hall)):
                for other in range(len(hall)):
                    first = next((at for at, pairs in enumerate(levels) if (one, other) not in pairs), None)
                    self.assertEqual(level_of(hall, one, other), first)
                    found.add(first)
                    self.assertIs(first is None, any(one in told and other in told for told in sorts_of(hall)))
        self.assertGreaterEqual(found, {None, 0, 1, 2, 3})

    def test_memory_is_not_looked_at(self):
        for memory in WEIGHTS:
            hall = Hall(ALIKE.strings(), ALIKE.steps(), memory)
            self.assertEqual(sorts_of(hall), SORTS)
            self.assertEqual(level_of(hall, 0, 4), 1)


if __name__ == "__main__":
    unittest.main()
