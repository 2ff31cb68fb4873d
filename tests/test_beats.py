import inspect
import unittest
from copy import deepcopy
from random import Random

from swayhalls.beats import history, lean, pulls
from swayhalls.halls import Hall, is_standing
from tests.draws import draw_hall, draw_held, draw_past, draws
from tests.plain import held_in, history_of, next_of, pull_of

# pulls by hand: person 0 is pulled by 2 and -3, person 1 by 5 and 0
PAIR = Hall([[2, -3], [5, 0]], [[-1, 0, 4], [10]], [10, 1])


class Pulls(unittest.TestCase):
    def test_by_hand(self):
        # the last beat is weighed by 10, the one ahead of it by 1
        self.assertEqual(pulls(PAIR, [(0, 0), (0, 0)]), (0, 0))
        self.assertEqual(pulls(PAIR, [(0, 0), (1, 0)]), (20, 50))
        self.assertEqual(pulls(PAIR, [(1, 0), (0, 0)]), (2, 5))
        self.assertEqual(pulls(PAIR, [(0, 1), (0, 0)]), (-3, 0))
        self.assertEqual(pulls(PAIR, [(0, 0), (0, 1)]), (-30, 0))
        self.assertEqual(pulls(PAIR, [(3, 1), (2, 1)]), (40 - 30 + 6 - 3, 100 + 15))

    def test_strings_are_read_by_the_pulled_ones_row(self):
        hall = Hall([[0, 1, 0], [0, 0, 10], [100, 0, 0]], [[1, 2, 3]] * 3)
        self.assertEqual(pulls(hall, [(1, 2, 3)]), (2, 30, 100))

    def test_five_beats(self):
        hall = Hall([[1]], [[1]], [1, 2, 4, 8, 9])
        for ago, weight in enumerate((1, 2, 4, 8, 9)):
            past = [(0,)] * 5
            past[4 - ago] = (1,)
            self.assertEqual(pulls(hall, past), (weight,))

    def test_against_plain_sums(self):
        for hall, past, _ in draws(2, 300):
            told = tuple(pull_of(hall, past, person) for person in range(len(hall)))
            self.assertEqual(pulls(hall, past), told)
            self.assertEqual(pulls(hall, tuple(past)), told)
            self.assertEqual(pulls(past=past, hall=hall), told)

    def test_greatest_halls(self):
        hall = Hall([[99] * 12] * 12, [[-9999, 0, 1, 9999]] * 12, [9] * 5)
        self.assertEqual(pulls(hall, [(4,) * 12] * 5), (99 * 4 * 12 * 45,) * 12)
        hall = Hall([[-99] * 12] * 12, [[-9999, 0, 1, 9999]] * 12, [9] * 5)
        self.assertEqual(pulls(hall, [(4,) * 12] * 5), (-99 * 4 * 12 * 45,) * 12)


class Leans(unittest.TestCase):
    def test_just_below_at_and_above_steps(self):
        # one who doesn't move pulls by its posture, at which it's held
        for steps in ([0], [-7], [7], [-3, 5], [1, 2, 3, 4], [-9, -1, 0, 9]):
            for pull in range(-12, 13):
                hall = Hall([[0, pull], [0, 0]], [steps, [1]])
                told = len([step for step in steps if step <= pull])
                self.assertEqual(lean(hall, [(0, 1)]), (told, 0))
                self.assertEqual(lean(hall, [(0, 0)], held=[(1, 1)]), (told, 1))

    def test_each_step_by_itself(self):
        hall = Hall([[0, 1], [0, 0]], [[1, 2, 3], [1, 2, 3, 4]])
        for posture, told in enumerate((0, 1, 2, 3, 3)):
            self.assertEqual(lean(hall, [(0, posture)]), (told, 0))

    def test_all_lean_at_once(self):
        hall = Hall([[0, 1], [1, 0]], [[1], [1]])
        self.assertEqual(lean(hall, [(0, 1)]), (1, 0))
        self.assertEqual(lean(hall, [(1, 0)]), (0, 1))

    def test_against_plain_words(self):
        for hall, past, held in draws(3, 400):
            told = next_of(hall, [held_in(standing, held) for standing in past], held)
            for form in (held, tuple(held), held[::-1], sorted(held), tuple(sorted(held, reverse=True))):
                self.assertEqual(lean(hall, past, held=form), told)
                self.assertEqual(lean(hall, tuple(past), held=form), told)
                self.assertEqual(lean(held=form, past=past, hall=hall), told)
            self.assertTrue(is_standing(hall, told))
            self.assertEqual(lean(hall, past), next_of(hall, past))
            self.assertEqual(lean(hall, past, held=[]), lean(hall, past))

    def test_held_ones_stand_so_in_the_past_as_well(self):
        hall = Hall([[0, 1], [0, 0]], [[1], [1]], [0, 1])
        self.assertEqual(lean(hall, [(0, 0), (0, 0)], held=[(1, 1)]), (1, 1))
        self.assertEqual(lean(hall, [(0, 1), (0, 1)], held=[(1, 0)]), (0, 0))
        self.assertEqual(lean(hall, [(0, 1), (0, 1)], held=[(0, 0)]), (0, 0))

    def test_all_held(self):
        draw = Random(4)
        for _ in range(50):
            hall = draw_hall(draw)
            held = draw_held(draw, hall, len(hall))
            told = tuple(dict(held)[person] for person in range(len(hall)))
            self.assertEqual(lean(hall, draw_past(draw, hall), held=held), told)

    def test_pulls_do_not_take_held(self):
        self.assertEqual(list(inspect.signature(pulls).parameters), ["hall", "past"])

    def test_held_by_its_name_alone(self):
        self.assertRaises(TypeError, lean, PAIR, [(0, 0), (0, 0)], [])
        self.assertRaises(TypeError, history, PAIR, [(0, 0), (0, 0)], 1, [])


class Histories(unittest.TestCase):
    def test_by_hand(self):
        ring = Hall([[0, 0, 1], [1, 0, 0], [0, 1, 0]], [[1]] * 3)
        self.assertEqual(history(ring, [(1, 0, 0)], 0), [(1, 0, 0)])
        self.assertEqual(history(ring, [(1, 0, 0)], 1), [(1, 0, 0), (0, 1, 0)])
        self.assertEqual(history(ring, [(1, 0, 0)], 4), [(1, 0, 0), (0, 1, 0), (0, 0, 1), (1, 0, 0), (0, 1, 0)])
        self.assertEqual(history(ring, [(1, 0, 0)], 3, held=[(1, 1)]), [(1, 1, 0), (0, 1, 1), (1, 1, 1), (1, 1, 1)])

    def test_by_hand_with_two_beats(self):
        # it does what it did two beats ago
        hall = Hall([[1]], [[1, 2]], [0, 1])
        self.assertEqual(history(hall, [(2,), (1,)], 3), [(2,), (1,), (2,), (1,), (2,)])

    def test_against_plain_words(self):
        for hall, past, held in draws(5, 200):
            for many in (0, 1, 2, 7, 20):
                told = history_of(hall, past, many, held)
                self.assertEqual(history(hall, past, many, held=held), told)
                self.assertEqual(history(hall, tuple(past), many, held=tuple(held[::-1])), told)
                self.assertEqual(history(many=many, held=held, past=past, hall=hall), told)
            self.assertEqual(history(hall, past, 12), history_of(hall, past, 12))

    def test_2000_beats(self):
        draw = Random(6)
        for persons, memory in ((1, (1, -2, 0, 2, -1)), (4, (1, -1)), (12, (3, -1, 2, -2, 1))):
            hall = draw_hall(draw, persons, memory)
            past = draw_past(draw, hall)
            told = history(hall, past, 2000)
            self.assertEqual(len(told), 2000 + len(memory))
            self.assertEqual(told[:len(past)], past)
            for beat in (0, 1, 500, 1998, 1999):
                behind = beat + len(memory)
                self.assertEqual(told[behind], next_of(hall, told[beat:behind]))

    def test_cut_anywhere_and_gone_on(self):
        for hall, past, held in draws(7, 60):
            beats = len(hall.memory())
            whole = history(hall, past, 25, held=held)
            for cut in (0, 1, 3, 12, 24, 25):
                begun = history(hall, past, cut, held=held)
                self.assertEqual(begun, whole[:cut + beats])
                gone_on = history(hall, begun[cut:], 25 - cut, held=held)
                self.assertEqual(begun + gone_on[beats:], whole)

    def test_each_next_one_is_what_lean_tells(self):
        for hall, past, held in draws(8, 60):
            beats = len(hall.memory())
            whole = history(hall, past, 10, held=held)
            for beat in range(10):
                self.assertEqual(whole[beat + beats], lean(hall, whole[beat:beat + beats], held=held))
                self.assertEqual(whole[beat + beats], lean(hall, whole[beat:beat + beats], held=tuple(held)))


class HandedIn(unittest.TestCase):
    def test_nothing_is_changed(self):
        for hall, past, held in draws(9, 60):
            before = deepcopy((past, held)), hall.strings(), hall.steps(), hall.memory()
            pulls(hall, past), lean(hall, past, held=held), history(hall, past, 9, held=held)
            self.assertEqual(((past, held), hall.strings(), hall.steps(), hall.memory()), before)

    def test_what_is_told_is_the_askers_own(self):
        hall, past = Hall([[1]], [[1]]), [(1,)]
        for many in (0, 3):
            told = history(hall, past, many)
            self.assertIsNot(told, past)
            told.append("x")
            told[0] = None
            self.assertEqual(history(hall, past, many), [(1,)] * (many + 1))
        self.assertEqual(past, [(1,)])

    def test_asked_again_it_tells_the_same(self):
        for hall, past, held in draws(10, 30):
            self.assertEqual(history(hall, past, 9, held=held), history(hall, past, 9, held=held))
            self.assertEqual(lean(hall, past, held=held), lean(hall, past, held=held))

    def test_kinds_of_what_is_told(self):
        for hall, past, held in draws(11, 30):
            self.assertIs(type(pulls(hall, past)), tuple)
            self.assertIs(type(lean(hall, past, held=held)), tuple)
            told = history(hall, tuple(past), 3, held=tuple(held))
            self.assertIs(type(told), list)
            self.assertTrue(all(is_standing(hall, standing) for standing in told))


if __name__ == "__main__":
    unittest.main()
