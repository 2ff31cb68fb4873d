import unittest
from copy import deepcopy
from itertools import product

from swayhalls.halls import Hall, is_past, is_standing
from tests.samples import NEVER_RIGHT, NUMBER_ROWS, NUMBERS, THINGS, put, steps_of, strings_of


def hall_of(tops, memory=(1,)):
    return Hall([[0] * len(tops)] * len(tops), [list(range(top)) for top in tops], memory)


SHAPES = [(1,), (4,), (1, 3), (2, 1, 4), (1,) * 12, (1, 2, 3, 4) * 3]


class Standings(unittest.TestCase):
    def check(self, hall, thing, told):
        before, shown = deepcopy(thing), (hall.strings(), hall.steps(), hall.memory())
        self.assertIs(is_standing(hall, thing), told, thing)
        self.assertIs(is_standing(thing=thing, hall=hall), told, thing)
        self.assertEqual(repr(thing), repr(before))
        self.assertEqual((hall.strings(), hall.steps(), hall.memory()), shown)

    def test_each_posture_of_each_person(self):
        for tops in ((1,), (4,), (1, 3), (2, 1, 4)):
            hall = hall_of(tops)
            for thing in product(*[range(-1, top + 3) for top in tops]):
                told = all(0 <= one <= top for one, top in zip(thing, tops))
                self.check(hall, thing, told)
                self.check(hall, list(thing), False)

    def test_noughts_and_tops_and_beyond(self):
        for tops in SHAPES:
            hall = hall_of(tops)
            self.assertEqual(hall.tops(), tops)
            self.check(hall, (0,) * len(tops), True)
            self.check(hall, tops, True)
            for at, top in enumerate(tops):
                self.check(hall, tuple(put(tops, at, top + 1)), False)
                self.check(hall, tuple(put(tops, at, -1)), False)
                self.check(hall, tuple(put(tops, at, 10 ** 30)), False)

    def test_too_long_or_too_short(self):
        for tops in SHAPES:
            hall = hall_of(tops)
            for thing in (tops[:-1], tops[1:], tops + (0,), (0,) + tops, tops + tops, ()):
                self.check(hall, thing, False)

    def test_other_kinds_for_a_number(self):
        for tops in SHAPES[:4]:
            hall = hall_of(tops)
            for at in range(len(tops)):
                for bad in NEVER_RIGHT + NUMBER_ROWS:
                    self.check(hall, tuple(put(tops, at, bad)), False)
        self.check(hall_of((1,)), (True,), False)
        self.check(hall_of((1, 1)), (0, False), False)

    def test_other_things(self):
        for hall in (hall_of((1,)), hall_of((4, 2)), hall_of((1, 2, 3), (1, 1))):
            for thing in THINGS:
                if thing != (1,) or len(hall) > 1:
                    self.check(hall, thing, False)
            self.check(hall, "0" * len(hall), False)
            self.check(hall, (hall.tops(),), False)
            self.check(hall, [hall.tops()], False)

    def test_strings_and_memory_are_no_matter(self):
        hall = Hall(strings_of(3), steps_of(3), (0, 0, -2))
        self.check(hall, (1, 2, 3), True)
        self.check(hall, (1, 2, 4), False)


class Pasts(unittest.TestCase):
    def check(self, hall, thing, told):
        before, shown = deepcopy(thing), (hall.strings(), hall.steps(), hall.memory())
        self.assertIs(is_past(hall, thing), told, thing)
        self.assertIs(is_past(thing=thing, hall=hall), told, thing)
        self.assertEqual(repr(thing), repr(before))
        self.assertEqual((hall.strings(), hall.steps(), hall.memory()), shown)

    def test_as_many_standings_as_beats(self):
        for tops in SHAPES:
            for beats in range(1, 6):
                hall = hall_of(tops, [0] * (beats - 1) + [1])
                for many in range(8):
                    self.check(hall, [tops] * many, many == beats)
                    self.check(hall, [(0,) * len(tops)] * many, many == beats)
                    self.check(hall, tuple([tops] * many), False)

    def test_each_past_of_a_small_hall(self):
        hall = hall_of((1, 2), (1, 1))
        tuples = list(product(range(-1, 3), range(-1, 4)))
        for one, other in product(tuples, tuples):
            self.check(hall, [one, other], is_standing(hall, one) and is_standing(hall, other))

    def test_one_that_is_no_standing(self):
        for tops in SHAPES[:4]:
            for beats in range(1, 6):
                hall = hall_of(tops, [1] * beats)
                for at in range(beats):
                    for bad in NEVER_RIGHT + NUMBERS + [list(tops), tops + (0,), tops[:-1], (-1,) + tops[1:]]:
                        self.check(hall, put([tops] * beats, at, bad), False)
                    self.check(hall, put([tops] * beats, at, tops[:-1] + (tops[-1] + 1,)), False)
                    self.check(hall, put([tops] * beats, at, tops[:-1] + (True,)), False)

    def test_other_things(self):
        for hall in (hall_of((1,)), hall_of((4, 2)), hall_of((1, 2), (1, 1)), hall_of((1,), (1,) * 5)):
            for thing in THINGS:
                self.check(hall, thing, False)
            self.check(hall, hall.tops(), False)
            self.check(hall, list(hall.tops()), False)
            self.check(hall, [[hall.tops()] * len(hall.memory())], False)
            self.check(hall, [list(hall.tops())] * len(hall.memory()), False)
            self.check(hall, "0" * len(hall.memory()), False)

    def test_a_told_past_is_not_kept(self):
        hall = hall_of((1, 1), (1, 1))
        past = [(0, 1), (1, 1)]
        self.check(hall, past, True)
        past.append((0, 0))
        self.check(hall, past, False)
        del past[0]
        self.check(hall, past, True)


if __name__ == "__main__":
    unittest.main()
