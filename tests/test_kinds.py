import unittest
from random import Random

from swayhalls.beats import history, lean
from swayhalls.halls import Hall, is_standing
from swayhalls.kinds import is_balanced, memory_word, middles, mirror, word_of
from swayhalls.rounds import round_at, round_of
from swayhalls.scales import scales_of
from tests.draws import (
    STRAIGHT, TURNED, draw_even, draw_hall, draw_held, draw_mirrored, draw_past, draw_standing, draws,
)
from tests.plain import pull_of
from tests.samples import put_in


def with_memory(memory):
    return Hall([[1, 2], [3, 4]], [[1], [0, 5]], memory)


def otherwise(hall, *, strings=None, steps=None, memory=None):
    return Hall(strings or hall.strings(), steps or hall.steps(), memory or hall.memory())


class Memories(unittest.TestCase):
    def test_by_hand(self):
        for memory in ((1,), (-9,), (2, 2), (-1, -1), (1, 0, 1), (1, 5, 1), (3, -2, -2, 3), (1, 2, 3, 2, 1),
                       (1, 0, 0, 0, 1)):
            self.assertEqual(memory_word(with_memory(memory)), "straight")
        for memory in ((1, -1), (-4, 4), (1, 0, -1), (-2, 0, 2), (1, 2, -2, -1), (1, 0, 0, -1), (1, 2, 0, -2, -1)):
            self.assertEqual(memory_word(hall=with_memory(memory)), "turned")
        for memory in ((1, 2), (0, 1), (1, 0, 2), (1, 1, -1), (1, -1, -1), (0, 0, 1), (1, 2, 3, 1), (1, 2, -2, 1),
                       (1, 2, 2, -1),
                       (1, 2, 3, -2, -1), (0, 0, 0, 0, 1), (1, 2, 0, 2, -1), (1, -2, 0, -2, -1)):
            self.assertEqual(memory_word(with_memory(memory)), "")

    def test_one_beat_is_never_turned(self):
        for weight in range(-9, 10):
            if weight != 0:
                self.assertEqual(memory_word(with_memory((weight,))), "straight")

    def test_all_small_ones(self):
        for memory in STRAIGHT:
            self.assertEqual(memory_word(with_memory(memory)), "straight")
        for memory in TURNED:
            self.assertEqual(memory_word(with_memory(memory)), "turned")


class Middles(unittest.TestCase):
    def test_by_hand(self):
        # tops 1 and 2
        self.assertEqual(middles(with_memory((1,))), (5, 11))
        self.assertEqual(middles(with_memory((3, -1, 2))), (20, 44))
        self.assertEqual(middles(with_memory((1, -1))), (0, 0))
        self.assertEqual(middles(hall=Hall([[0]], [[7]])), (0,))

    def test_pull_of_tops(self):
        for hall, _, _ in draws(60, 100):
            tops = [hall.tops()] * len(hall.memory())
            self.assertEqual(middles(hall), tuple(pull_of(hall, tops, person) for person in range(len(hall))))
            self.assertIs(type(middles(hall)), tuple)


class Balances(unittest.TestCase):
    def check(self, told, middle, steps):
        # person 1, of top 1, pulls by middle
        hall = Hall([[0, middle], [0, 0]], [steps, [50]])
        self.assertEqual(middles(hall)[0], middle)
        self.assertIs(is_balanced(hall, 0), told)
        self.assertIs(is_balanced(person=0, hall=hall), told)
        self.assertIs(is_balanced(hall, 1), False)

    def test_odd_and_even_tops(self):
        for middle, steps in ((3, [2]), (-7, [-3]), (0, [0, 1]), (4, [-5, 10]), (5, [1, 3, 5]), (-1, [-1, 0, 1]),
                              (10, [2, 4, 7, 9]), (0, [-9, 0, 1, 10]), (1, [1])):
            self.check(True, middle, steps)
            for at in range(len(steps)):
                for by in (-1, 1):
                    moved = list(steps)
                    moved[at] += by
                    if moved == sorted(set(moved)):
                        self.check(False, middle, moved)

    def test_its_opposite_moved_too(self):
        for middle, steps in ((4, [-5, 10]), (5, [1, 3, 5]), (10, [2, 4, 7, 9]), (0, [-9, 0, 1, 10])):
            for at in range(len(steps) // 2):
                for by in (-1, 1):
                    moved = list(steps)
                    moved[at] += by
                    moved[-1 - at] -= by
                    if moved == sorted(set(moved)):
                        self.check(True, middle, moved)

    def test_a_step_in_the_midst(self):
        for middle in range(-6, 7):
            for step in range(-6, 7):
                self.check(2 * step == middle + 1, middle, [step])
                self.check(2 * step == middle + 1, middle, [middle + 1 - 20, step, 20])

    def test_memory_is_weighed(self):
        hall = Hall([[0, 2], [0, 0]], [[3, 8], [1]], [2, 3])
        self.assertEqual(middles(hall), (10, 0))
        self.assertIs(is_balanced(hall, 0), True)
        self.assertIs(is_balanced(otherwise(hall, memory=(2, 2)), 0), False)

    def test_mirrors_lead_to_mirrors(self):
        """Where all are balanced, whatever the strings."""
        draw, done = Random(61), 0
        while done < 60:
            plain = draw_hall(draw)
            spread = [sorted({draw.randint(-9, 9) for _ in range(2)}) for _ in range(len(plain))]
            tops = Hall(plain.strings(), [[0, 1, 2, 3][:2 * len(one)] for one in spread], plain.memory())
            steps = [[*one, *[middle + 1 - step for step in one[::-1]]] for one, middle in zip(spread, middles(tops))]
            if all(row == sorted(set(row)) for row in steps):
                hall = Hall(plain.strings(), steps, plain.memory())
                self.assertTrue(all(is_balanced(hall, person) for person in range(len(hall))))
                past = draw_past(draw, hall)
                turned = history(hall, [mirror(hall, standing) for standing in past], 20)
                self.assertEqual(turned, [mirror(hall, standing) for standing in history(hall, past, 20)])
                done += 1


class Mirrors(unittest.TestCase):
    def test_by_hand(self):
        hall = Hall([[0] * 3] * 3, [[1], [1, 2, 3], [1, 2]])
        self.assertEqual(mirror(hall, (0, 0, 0)), (1, 3, 2))
        self.assertEqual(mirror(hall, (1, 1, 1)), (0, 2, 1))
        self.assertEqual(mirror(standing=(1, 3, 2), hall=hall), (0, 0, 0))

    def test_twice_is_itself(self):
        draw = Random(62)
        for _ in range(100):
            hall = draw_hall(draw, draw.randint(1, 12))
            standing = draw_standing(draw, hall)
            self.assertTrue(is_standing(hall, mirror(hall, standing)))
            self.assertEqual(mirror(hall, mirror(hall, standing)), standing)


EVEN = Hall([[1, 2], [3, 0]], [[0], [5, 7]], [1, 2, 1])
EVEN_TURNED = Hall([[0, 2], [-3, 0]], [[0], [5, 7]], [1, 0, -1])
MIRRORED = Hall([[0, 1], [-1, 0]], [[1], [0]])
MIRRORED_TURNED = Hall([[1, 2], [3, 0]], [[0, 1], [-4, 5]], [1, -1])


class Words(unittest.TestCase):
    def test_even_both_ways(self):
        self.assertEqual(word_of(EVEN), "even")
        self.assertEqual(word_of(hall=EVEN_TURNED), "even")

    def test_mirrored_both_ways(self):
        self.assertEqual(middles(MIRRORED), (1, -1))
        self.assertEqual(word_of(MIRRORED), "mirrored")
        self.assertEqual(word_of(MIRRORED_TURNED), "mirrored")

    def test_one_weight_otherwise(self):
        self.assertEqual(word_of(otherwise(EVEN, memory=(1, 2, 2))), "")
        self.assertEqual(word_of(otherwise(EVEN, memory=(1, 3, 1))), "even")
        # straight strings beside a turned memory, but nobody is balanced
        self.assertEqual(word_of(otherwise(EVEN, memory=(1, 0, -1))), "")
        self.assertEqual(word_of(otherwise(EVEN_TURNED, memory=(1, 0, 1))), "")
        self.assertEqual(word_of(otherwise(EVEN_TURNED, memory=(1, 1, -1))), "")
        self.assertEqual(word_of(otherwise(MIRRORED, memory=(1, 1))), "")
        self.assertEqual(word_of(otherwise(MIRRORED, memory=(1, -1))), "even")
        self.assertEqual(word_of(otherwise(MIRRORED_TURNED, memory=(2, -1))), "")
        self.assertEqual(word_of(otherwise(MIRRORED_TURNED, memory=(2, -2))), "mirrored")
        self.assertEqual(word_of(otherwise(MIRRORED_TURNED, memory=(2, 2))), "even")

    def test_one_string_otherwise(self):
        three = Hall([[0, 1, 1], [1, 0, 1], [1, 1, 0]], [[1]] * 3)
        self.assertEqual(word_of(three), "even")
        for i in range(3):
            for j in range(3):
                told = "even" if i == j else ""
                self.assertEqual(word_of(otherwise(three, strings=put_in(three.strings(), i, j, 2))), told)
        self.assertEqual(word_of(otherwise(EVEN, strings=[[1, 0], [3, 0]])), "")
        self.assertEqual(word_of(otherwise(EVEN, strings=[[1, -2], [3, 0]])), "")
        self.assertEqual(word_of(otherwise(EVEN_TURNED, strings=[[1, 2], [-3, 0]])), "")
        self.assertEqual(word_of(otherwise(MIRRORED, strings=[[1, 1], [-1, 0]])), "")
        self.assertEqual(word_of(otherwise(MIRRORED, strings=[[0, 3], [-1, 0]])), "")
        self.assertEqual(word_of(otherwise(MIRRORED_TURNED, strings=[[9, 2], [3, 0]])), "mirrored")

    def test_one_step_otherwise(self):
        # steps are no matter in an even one
        self.assertEqual(word_of(otherwise(EVEN, steps=[[7], [1, 9]])), "even")
        self.assertEqual(word_of(otherwise(EVEN_TURNED, steps=[[7], [1, 9]])), "even")
        for steps in ([[2], [0]], [[1], [1]], [[0], [0]]):
            self.assertEqual(word_of(otherwise(MIRRORED, steps=steps)), "")
        for steps in ([[-1, 1], [-4, 5]], [[0, 1], [-4, 6]], [[0], [-4, 5]]):
            self.assertEqual(word_of(otherwise(MIRRORED_TURNED, steps=steps)), "")
        self.assertEqual(word_of(otherwise(MIRRORED_TURNED, steps=[[-1, 2], [-4, 5]])), "mirrored")

    def test_strings_that_are_all_0(self):
        for memory in ((1,), (1, 1), (1, -1), (1, 0, -1)):
            self.assertEqual(word_of(Hall([[0, 0], [0, 0]], [[1], [3]], memory)), "even")
        self.assertEqual(word_of(Hall([[0, 0], [0, 0]], [[0, 1], [0, 1]], (1, 2))), "")

    def test_balanced_but_neither(self):
        self.assertEqual(word_of(Hall([[0, 1], [-1, 0]], [[1], [0]], (1,))), "mirrored")
        self.assertEqual(word_of(Hall([[0, 1, 0], [-1, 0, 2], [0, 2, 0]], [[1], [1], [1]])), "")

    def test_drawn_ones(self):
        draw = Random(63)
        for _ in range(200):
            self.assertEqual(word_of(draw_even(draw)), "even")
            self.assertEqual(word_of(draw_mirrored(draw)), "mirrored")

    def test_against_plain_words(self):
        draw = Random(64)
        for _ in range(300):
            hall = draw.choice((draw_even, draw_mirrored, draw_hall))(draw)
            hall = otherwise(hall, memory=draw.choice((hall.memory(), *STRAIGHT, *TURNED)))
            straight, turned = scales_of(hall) is not None, scales_of(hall, turned=True) is not None
            memory, told = memory_word(hall), ""
            if (memory == "straight" and straight) or (memory == "turned" and turned):
                told = "even"
            elif (memory == "straight" and turned) or (memory == "turned" and straight):
                if all(is_balanced(hall, person) for person in range(len(hall))):
                    told = "mirrored"
            self.assertEqual(word_of(hall), told)


class WhatFollows(unittest.TestCase):
    """Promised above all, [1] (a), and the words in brackets of [7]."""

    def test_even_halls(self):
        draw = Random(65)
        for _ in range(150):
            hall = draw_even(draw)
            past, held = draw_past(draw, hall), draw.choice(((), draw_held(draw, hall)))
            again = len(hall.memory()) + 1
            begin, length = round_of(hall, past, held=held)
            self.assertEqual(again % length, 0)
            told = history(hall, past, begin + 3 * again, held=held)
            for beat in range(begin, begin + again):
                self.assertEqual(told[beat], told[beat + again])

    def test_mirrored_halls(self):
        draw, odd = Random(66), 0
        for turned in [None, True] * 150:
            hall = draw_mirrored(draw, turned=turned)
            past = draw_past(draw, hall)
            again = len(hall.memory()) + 1
            begin, length = round_of(hall, past)
            self.assertEqual(2 * again % length, 0)
            told = history(hall, past, begin + 4 * again)
            for beat in range(begin, begin + 2 * again):
                self.assertEqual(told[beat + again], mirror(hall, told[beat]))
            if length % 2 == 0 and again % length != 0:
                turn = round_at(hall, past)
                self.assertEqual(turn[length // 2:], [mirror(hall, one) for one in turn[:length // 2]])
            if any(top % 2 for top in hall.tops()):
                odd += 1
                self.assertNotEqual(again % length, 0)
        self.assertGreater(odd, 20)

    def test_next_of_mirrors(self):
        draw = Random(67)
        for _ in range(60):
            hall = draw_mirrored(draw)
            past = draw_past(draw, hall)
            turned = [mirror(hall, standing) for standing in past]
            self.assertEqual(lean(hall, turned), mirror(hall, lean(hall, past)))


if __name__ == "__main__":
    unittest.main()
