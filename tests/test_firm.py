import unittest
from copy import deepcopy
from itertools import combinations, product
from random import Random

from swayhalls.beats import history
from swayhalls.firm import firm_of, is_firm, movers, shows_movers, span_of
from swayhalls.folds import folded
from swayhalls.halls import Hall, is_past
from tests.draws import draw_even, draw_hall, draw_past, draw_standing
from tests.plain import next_of, pasts_of, pull_of
from tests.samples import THINGS, put

# 0 and 1 hold each other up, 2 is moved by anybody
HOLD = Hall([[0, 3, -1], [3, 0, 1], [1, -1, 0]], [[2], [2], [0]])
UP = (1, 1, 1)
MEMORIES = [(1,), (-1,), (2, -1), (0, 1), (1, 1)]


def draw_small(draw):
    """A hall of few pasts."""
    persons = draw.randint(1, 3)
    strings = [[draw.randint(-3, 3) for _ in range(persons)] for _ in range(persons)]
    steps = [sorted(draw.sample(range(-4, 5), draw.choice((1, 1, 2)))) for _ in range(persons)]
    return Hall(strings, steps, draw.choice(MEMORIES))


def draw_sluggish(draw, persons=None):
    """A hall of few strings, so that some groups stand firm."""
    persons = draw.randint(1, 6) if persons is None else persons
    strings = [[draw.choice((0, 0, 0, 1, -1, 4)) for _ in range(persons)] for _ in range(persons)]
    steps = [sorted(draw.sample(range(-5, 6), draw.randint(1, 3))) for _ in range(persons)]
    return Hall(strings, steps, draw.choice(MEMORIES + [(1, 0, 0, -2, 1)]))


def groups_of(hall):
    """All groups, the bare one too."""
    return [list(group) for many in range(len(hall) + 1) for group in combinations(range(len(hall)), many)]


def pasts_with(hall, standing, group):
    """All pasts in which the group stands as in standing."""
    return [past for past in pasts_of(hall) if all(then[one] == standing[one] for then in past for one in group)]


def span_by_sums(hall, standing, group, person):
    low = high = 0
    for weight in hall.memory():
        for other, string in enumerate(hall.strings()[person]):
            postures = [standing[other]] if other in group else range(hall.tops()[other] + 1)
            low += min(weight * string * posture for posture in postures)
            high += max(weight * string * posture for posture in postures)
    return low, high


def is_firm_by_sums(hall, standing, group):
    for person in group:
        low, high = span_by_sums(hall, standing, group, person)
        for pull in (low, high):
            if sum(step <= pull for step in hall.steps()[person]) != standing[person]:
                return False
    return True


def greatest_by_sums(hall, standing):
    """The greatest of all firm groups, the others in it."""
    firm = [group for group in groups_of(hall) if is_firm_by_sums(hall, standing, group)]
    assert all(set(group) <= set(firm[-1]) for group in firm)
    return firm[-1]


def shows_by_words(hall, standing, pairs):
    for at, (person, past) in enumerate(pairs):
        ahead = [other for other, _ in pairs[:at]]
        if person in ahead:
            return False
        for other in range(len(hall)):
            if other not in ahead and any(then[other] != standing[other] for then in past):
                return False
        if next_of(hall, past)[person] == standing[person]:
            return False
    return True


class Spans(unittest.TestCase):
    def test_by_hand(self):
        self.assertEqual(span_of(HOLD, UP, [0, 1], 0), (2, 3))
        self.assertEqual(span_of(HOLD, UP, [0, 1], 1), (3, 4))
        self.assertEqual(span_of(HOLD, UP, [0, 1], 2), (0, 0))
        self.assertEqual(span_of(HOLD, UP, [], 0), (-1, 3))
        self.assertEqual(span_of(HOLD, UP, [0, 1, 2], 0), (2, 2))
        # that person too stands anyhow where it's none of the group
        own = Hall([[5]], [[1, 2]], (1, -1))
        self.assertEqual(span_of(own, (1,), [], 0), (-10, 10))
        self.assertEqual(span_of(own, (1,), [0], 0), (0, 0))

    def test_against_all_pasts_of_small_halls(self):
        draw = Random(170)
        for _ in range(60):
            hall = draw_small(draw)
            standing = draw_standing(draw, hall)
            for group in groups_of(hall):
                pasts = pasts_with(hall, standing, group)
                for person in range(len(hall)):
                    told = [pull_of(hall, past, person) for past in pasts]
                    self.assertEqual(span_of(hall, standing, group, person), (min(told), max(told)))

    def test_against_sums(self):
        draw = Random(171)
        for _ in range(150):
            hall = draw_hall(draw)
            standing = draw_standing(draw, hall)
            group = sorted(draw.sample(range(len(hall)), draw.randint(0, len(hall))))
            for person in range(len(hall)):
                told = span_of(hall, standing, group, person)
                self.assertEqual(told, span_by_sums(hall, standing, group, person))
                self.assertEqual(span_of(hall, standing, tuple(group), person), told)
                self.assertEqual(span_of(person=person, group=group, standing=standing, hall=hall), told)
                self.assertIs(type(told), tuple)


class Groups(unittest.TestCase):
    def test_by_hand(self):
        self.assertIs(is_firm(HOLD, UP, [0, 1]), True)
        self.assertIs(is_firm(HOLD, UP, [0]), False)
        self.assertIs(is_firm(HOLD, UP, []), True)
        self.assertIs(is_firm(HOLD, UP, [2]), False)
        # with both others, 2 is pulled by 0
        self.assertIs(is_firm(HOLD, UP, [0, 1, 2]), True)
        self.assertEqual(firm_of(HOLD, UP), [0, 1, 2])
        self.assertEqual(firm_of(HOLD, (1, 1, 0)), [0, 1])
        self.assertEqual(firm_of(HOLD, (0, 0, 0)), [0, 1])
        self.assertEqual(firm_of(HOLD, (1, 0, 0)), [])
        self.assertEqual(firm_of(hall=Hall([[0]], [[1]]), standing=(0,)), [0])

    def test_against_all_groups(self):
        draw, firm, partly = Random(172), 0, 0
        for at in range(150):
            hall = draw_sluggish(draw) if at % 2 else draw_small(draw)
            standing = draw_standing(draw, hall)
            if at % 3 == 0:
                standing = history(hall, draw_past(draw, hall), 30)[-1]
            for group in groups_of(hall):
                told = is_firm_by_sums(hall, standing, group)
                self.assertIs(is_firm(hall, standing, group), told)
                self.assertIs(is_firm(hall, standing, tuple(group)), told)
                self.assertIs(is_firm(group=group, standing=standing, hall=hall), told)
                firm += told
            greatest = greatest_by_sums(hall, standing)
            self.assertEqual(firm_of(hall, standing), greatest)
            self.assertEqual(firm_of(standing=standing, hall=hall), greatest)
            partly += 0 < len(greatest) < len(hall)
        self.assertGreater(firm, 300)
        self.assertGreater(partly, 20)

    def test_it_stays_whatever_the_others_do(self):
        """Promised above all, [1] (f)."""
        draw, stayed = Random(173), 0
        for _ in range(150):
            hall = draw_sluggish(draw)
            standing = history(hall, draw_past(draw, hall), 30)[-1]
            group = firm_of(hall, standing)
            for _ in range(4):
                past = [tuple(standing[one] if one in group else posture for one, posture in enumerate(then))
                        for then in draw_past(draw, hall)]
                held = [(one, draw.randint(0, top)) for one, top in enumerate(hall.tops())
                        if one not in group and draw.random() < 0.5]
                for then in history(hall, past, 20, held=held):
                    self.assertEqual([then[one] for one in group], [standing[one] for one in group])
            stayed += len(group)
        self.assertGreater(stayed, 150)

    def test_a_folded_hall(self):
        draw = Random(174)
        hall = folded(draw_even(draw, 4))
        standing = draw_standing(draw, hall)
        group = firm_of(hall, standing)
        self.assertIs(is_firm(hall, standing, group), True)
        self.assertEqual(len(movers(hall, standing)), len(hall) - len(group))


class Movers(unittest.TestCase):
    def test_by_hand(self):
        self.assertEqual(movers(HOLD, UP), [])
        self.assertEqual(movers(HOLD, (1, 1, 0)), [(2, [(1, 1, 0)])])
        lone = Hall([[0]], [[1]], (1, 1))
        self.assertEqual(movers(lone, (1,)), [(0, [(1,), (1,)])])
        self.assertEqual(movers(standing=(0,), hall=lone), [])

    def test_each_who_is_in_no_firm_group_just_once(self):
        draw, moved = Random(175), 0
        for at in range(200):
            hall = draw_sluggish(draw) if at % 2 else draw_hall(draw)
            standing = draw_standing(draw, hall)
            told = movers(hall, standing)
            self.assertEqual(sorted(person for person, _ in told),
                             [person for person in range(len(hall)) if person not in greatest_by_sums(hall, standing)])
            self.assertTrue(all(is_past(hall, past) for _, past in told))
            self.assertTrue(shows_by_words(hall, standing, told))
            self.assertIs(shows_movers(hall, standing, told), True)
            self.assertEqual([type(told)] + [type(pair) for pair in told], [list] + [tuple] * len(told))
            moved += len(told)
        self.assertGreater(moved, 200)

    def test_told_lists_are_the_askers_own(self):
        lone = Hall([[0, 0], [0, 0]], [[1], [1]], (1, 1))
        told = movers(lone, (1, 1))
        again = deepcopy(told)
        told[0][1].clear()
        self.assertEqual(told[1], again[1])
        self.assertEqual(movers(lone, (1, 1)), again)
        told.clear()
        firm_of(HOLD, UP).clear()
        self.assertEqual((movers(lone, (1, 1)), firm_of(HOLD, UP)), (again, [0, 1, 2]))


class Shown(unittest.TestCase):
    def check(self, told, hall, standing, thing):
        before = repr(thing)
        self.assertIs(shows_movers(hall, standing, thing), told, thing)
        self.assertIs(shows_movers(thing=thing, standing=standing, hall=hall), told, thing)
        self.assertEqual(repr(thing), before)

    def test_parts_of_them_in_any_order(self):
        draw, right, wrong = Random(176), 0, 0
        for at in range(120):
            hall = draw_sluggish(draw) if at % 2 else draw_hall(draw)
            standing = draw_standing(draw, hall)
            pairs = movers(hall, standing)
            for _ in range(6):
                part = draw.sample(pairs, draw.randint(0, len(pairs)))
                told = shows_by_words(hall, standing, part)
                self.check(told, hall, standing, part)
                right += told
                wrong += not told
            for end in range(len(pairs) + 1):
                self.check(True, hall, standing, pairs[:end])
        self.assertGreater(right, 100)
        self.assertGreater(wrong, 50)

    def test_with_one_thing_otherwise(self):
        draw, wrong = Random(177), 0
        for at in range(80):
            hall = draw_sluggish(draw, draw.randint(2, 5))
            standing = draw_standing(draw, hall)
            pairs = movers(hall, standing)
            for place, (person, past) in enumerate(pairs):
                for other in range(len(hall)):
                    changed = put(pairs, place, (other, past))
                    self.check(shows_by_words(hall, standing, changed), hall, standing, changed)
                for beat, one in product(range(len(past)), range(len(hall))):
                    for posture in range(hall.tops()[one] + 1):
                        then = put(past, beat, tuple(put(past[beat], one, posture)))
                        changed = put(pairs, place, (person, then))
                        told = shows_by_words(hall, standing, changed)
                        self.check(told, hall, standing, changed)
                        wrong += not told
                for thing in ([person, past], (person,), (person, past, past), (past, person), person, past, None,
                              (person, tuple(past)), (person, [list(then) for then in past]), (str(person), past),
                              (person, past + past), (person, past[1:]), ((person, past),), (person, None),
                              (len(hall), past), (-1, past), (person, [then + (0,) for then in past]),
                              (person, [then[1:] for then in past]), (None, past), (person, [None] * len(past)),
                              (person, put(past, 0, (True,) * len(hall))), (person, put(past, 0, (9,) * len(hall)))):
                    self.check(False, hall, standing, put(pairs, place, thing))
                self.check(False, hall, standing, pairs + [pairs[place]])
            self.check(False, hall, standing, tuple(pairs))
        self.assertGreater(wrong, 200)

    def test_who_is_in_a_firm_group_is_never_shown(self):
        draw = Random(178)
        for _ in range(40):
            hall = draw_small(draw)
            standing = draw_standing(draw, hall)
            pairs = movers(hall, standing)
            for person in firm_of(hall, standing):
                for past in pasts_of(hall)[:200]:
                    self.check(False, hall, standing, pairs + [(person, past)])

    def test_numbers_that_are_none(self):
        lone = Hall([[0, 0], [0, 0]], [[1], [1]])
        self.check(True, lone, (1, 1), [(0, [(1, 1)]), (1, [(0, 1)])])
        for thing in ([(False, [(1, 1)])], [(0, [(1, True)])], [(True, [(1, 1)])], [(0, [(1, 1)]), (True, [(0, 1)])],
                      [(0, [(1, 1)]), (1, [(False, 1)])], [(0, [("1", 1)])]):
            self.check(False, lone, (1, 1), thing)

    def test_things_of_any_kind(self):
        for thing in THINGS:
            self.check(thing == [], HOLD, UP, thing)
            self.check(thing == [], HOLD, (0, 0, 0), thing)
        for thing in ((), None, False, 0, "", "[]", [()], [[]], [None], [(0,)], [(0, [])], [(2, ())], [[2, [UP]]]):
            self.check(False, HOLD, UP, thing)


class HandedIn(unittest.TestCase):
    def test_nothing_is_changed(self):
        draw = Random(179)
        for _ in range(20):
            hall = draw_sluggish(draw)
            standing, group = draw_standing(draw, hall), list(range(len(hall)))
            span_of(hall, standing, group, 0), is_firm(hall, standing, group)
            self.assertEqual(group, list(range(len(hall))))


if __name__ == "__main__":
    unittest.main()
