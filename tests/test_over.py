import unittest
from copy import deepcopy
from itertools import permutations
from math import lcm
from random import Random

from swayhalls.beats import history, lean
from swayhalls.errors import Alone, BadHall, NoPerson, TooMany, Unlike
from swayhalls.folds import folded
from swayhalls.halls import Hall
from swayhalls.kinds import word_of
from swayhalls.over import as_piece, beside, left_out, parting_past, stepped, tied, turned_over
from swayhalls.rounds import round_of
from swayhalls.scales import pieces_of, scales_of
from tests.draws import WEIGHTS, draw_even, draw_hall, draw_held, draw_past, draw_standing, draw_steps, draws
from tests.plain import down, history_of, next_of, pasts_of, without
from tests.samples import NUMBERS, THINGS, put, put_in

HALL = Hall([[1, 2, 3], [4, 5, 6], [7, 8, 9]], [[1, 2], [0], [-1, 5, 7]], (2, -1))
STRANGERS = (-1, 3, 99, -3, 10 ** 30)


def turned_by_words(hall, person):
    weight, top, strings, steps = sum(hall.memory()), hall.tops()[person], hall.strings(), []
    rows = [list(row) for row in strings]
    for other in range(len(hall)):
        if other != person:
            rows[person][other] = -strings[person][other]
            rows[other][person] = -strings[other][person]
            steps.append([step - weight * strings[other][person] * top for step in hall.steps()[other]])
        else:
            steps.append(sorted(1 - step + weight * strings[person][person] * top for step in hall.steps()[person]))
    return Hall(rows, steps, hall.memory())


class TurnedOver(unittest.TestCase):
    def test_by_hand(self):
        # all weights together are 1, person 0's top is 2
        self.assertEqual(turned_over(HALL, 0), Hall([[1, -2, -3], [-4, 5, 6], [-7, 8, 9]],
                                                    [[1, 2], [-8], [-15, -9, -7]], (2, -1)))
        self.assertEqual(turned_over(Hall([[0]], [[1, 4]]), 0), Hall([[0]], [[-3, 0]]))
        self.assertEqual(turned_over(person=1, hall=Hall([[0, 5], [0, 0]], [[3], [0, 9]])),
                         Hall([[0, -5], [0, 0]], [[-7], [-8, 1]]))

    def test_against_words(self):
        for hall, _, _ in draws(190, 120):
            for person in range(len(hall)):
                self.assertEqual(turned_over(hall, person), turned_by_words(hall, person))

    def test_twice_is_the_hall_itself_in_any_order_the_same(self):
        draw = Random(191)
        for hall, _, _ in draws(192, 100):
            persons = draw.sample(range(len(hall)), draw.randint(1, min(3, len(hall))))
            told = []
            for order in permutations(persons):
                other = hall
                for person in order:
                    other = turned_over(other, person)
                told.append(other)
            self.assertTrue(all(other == told[0] for other in told))
            for person in persons:
                told[0] = turned_over(told[0], person)
            self.assertEqual(told[0], hall)

    def test_histories_are_told_from_tops_down(self):
        """Promised above all, [1] (e)."""
        for hall, past, held in draws(193, 150):
            for person in range(len(hall)):
                other = turned_over(hall, person)
                self.assertEqual(other.tops(), hall.tops())
                told = history(other, [down(hall, person, one) for one in past], 25, held=[
                    (one, hall.tops()[one] - posture if one == person else posture) for one, posture in held])
                self.assertEqual(told, [down(hall, person, one) for one in history_of(hall, past, 25, held)])

    def test_kinds_of_strings_stay(self):
        draw = Random(194)
        for _ in range(80):
            hall = draw_even(draw)
            for person in range(len(hall)):
                other = turned_over(hall, person)
                self.assertEqual(word_of(other), "even")
                for turned in (False, True):
                    self.assertEqual(scales_of(other, turned=turned), scales_of(hall, turned=turned))


class LeftOut(unittest.TestCase):
    def test_by_hand(self):
        self.assertEqual(left_out(HALL, 1, 1), Hall([[1, 3], [7, 9]], [[-1, 0], [-9, -3, -1]], (2, -1)))
        self.assertEqual(left_out(HALL, 1, 0), Hall([[1, 3], [7, 9]], [[1, 2], [-1, 5, 7]], (2, -1)))
        self.assertEqual(left_out(posture=3, person=2, hall=HALL), Hall([[1, 2], [4, 5]], [[-8, -7], [-18]], (2, -1)))

    def test_it_goes_as_where_that_one_is_held(self):
        """Promised above all, [1] (e)."""
        for hall, past, held in draws(195, 200):
            if len(hall) > 1:
                for person in range(len(hall)):
                    for posture in (0, hall.tops()[person]):
                        other = left_out(hall, person, posture)
                        mine = [(one - (one > person), much) for one, much in held if one != person]
                        told = history(other, [without(one, person) for one in past], 20, held=mine)
                        rows = history_of(hall, past, 20, [pair for pair in held if pair[0] != person]
                                          + [(person, posture)])
                        self.assertEqual(told, [without(one, person) for one in rows])

    def test_the_last_one_is_refused(self):
        lone = Hall([[1]], [[1, 2]], (1, 2))
        for posture in (0, 1, 2):
            self.assertRaises(Alone, left_out, lone, 0, posture)
        for person in (1, -1, 7):
            with self.assertRaises(NoPerson) as caught:
                left_out(lone, person, 0)
            self.assertEqual(caught.exception.person, person)


class Beside(unittest.TestCase):
    def test_by_hand(self):
        self.assertEqual(beside(Hall([[1]], [[2]]), Hall([[3, 4], [5, 6]], [[7], [8, 9]])),
                         Hall([[1, 0, 0], [0, 3, 4], [0, 5, 6]], [[2], [7], [8, 9]]))

    def test_both_go_on_by_themselves(self):
        draw = Random(196)
        for _ in range(100):
            memory = draw.choice(WEIGHTS)
            one, other = draw_hall(draw, draw.randint(1, 3), memory), draw_hall(draw, draw.randint(1, 3), memory)
            pasts = draw_past(draw, one), draw_past(draw, other)
            helds = draw_held(draw, one), draw_held(draw, other)
            both = beside(other=other, one=one)
            self.assertEqual((len(both), both.memory()), (len(one) + len(other), memory))
            held = helds[0] + [(person + len(one), posture) for person, posture in helds[1]]
            told = history(both, [a + b for a, b in zip(*pasts)], 25, held=held)
            self.assertEqual(told, [a + b for a, b in zip(history_of(one, pasts[0], 25, helds[0]),
                                                          history_of(other, pasts[1], 25, helds[1]))])
            rounds = [round_of(one, pasts[0], most=2000), round_of(other, pasts[1], most=2000)]
            self.assertEqual(round_of(both, [a + b for a, b in zip(*pasts)], most=2000),
                             (max(rounds[0][0], rounds[1][0]), lcm(rounds[0][1], rounds[1][1])))

    def test_more_than_twelve(self):
        draw = Random(197)
        one, other = draw_hall(draw, 12, (1,)), draw_hall(draw, 12, (1,))
        self.assertEqual(len(beside(beside(one, other), one)), 36)

    def test_unlike_memories(self):
        for one in WEIGHTS:
            for other in WEIGHTS:
                halls = Hall([[1]], [[1]], one), Hall([[1]], [[1]], other)
                if one == other:
                    self.assertEqual(len(beside(*halls)), 2)
                else:
                    self.assertRaises(Unlike, beside, *halls)


class Tied(unittest.TestCase):
    def test_by_hand(self):
        self.assertEqual(tied(HALL, 0, 2, 50).strings(), ((1, 2, 50), (4, 5, 6), (50, 8, 9)))
        self.assertEqual(tied(HALL, 0, 2, 50, back=-60).strings(), ((1, 2, 50), (4, 5, 6), (-60, 8, 9)))
        self.assertEqual(tied(HALL, 2, 0, 50, back=0).strings(), ((1, 2, 0), (4, 5, 6), (50, 8, 9)))
        self.assertEqual(tied(HALL, 0, 2, 0, back=None).strings(), ((1, 2, 0), (4, 5, 6), (0, 8, 9)))
        self.assertEqual(tied(back=1, weight=2, other=1, one=0, hall=HALL).strings(), ((1, 2, 3), (1, 5, 6), (7, 8, 9)))

    def test_of_one_and_the_same(self):
        for back in (None, 0, 7, -8):
            self.assertEqual(tied(HALL, 1, 1, -5, back=back).strings(), ((1, 2, 3), (4, -5, 6), (7, 8, 9)))

    def test_drawn(self):
        draw = Random(198)
        for hall, _, _ in draws(199, 100):
            one, other = draw.randrange(len(hall)), draw.randrange(len(hall))
            weight, back = draw.randint(-99, 99), draw.choice((None, draw.randint(-99, 99)))
            told = tied(hall, one, other, weight, back=back)
            rows = put_in(hall.strings(), other, one, weight if back is None else back)
            self.assertEqual(told, Hall(put_in(rows, one, other, weight), hall.steps(), hall.memory()))

    def test_by_names_alone(self):
        self.assertRaises(TypeError, tied, HALL, 0, 1, 2, 3)


class Stepped(unittest.TestCase):
    def test_by_hand(self):
        self.assertEqual(stepped(HALL, 1, [3, 4, 8]),
                         Hall(HALL.strings(), [[1, 2], [3, 4, 8], [-1, 5, 7]], HALL.memory()))
        self.assertEqual(stepped(steps=(-9,), person=0, hall=HALL).steps(), ((-9,), (0,), (-1, 5, 7)))

    def test_drawn(self):
        draw = Random(200)
        for hall, _, _ in draws(201, 60):
            person, steps = draw.randrange(len(hall)), draw_steps(draw, draw.randint(1, 4), 9)
            for told in (stepped(hall, person, steps), stepped(hall, person, tuple(steps))):
                self.assertEqual(told, Hall(hall.strings(), put(hall.steps(), person, steps), hall.memory()))
            before = deepcopy(steps)
            told = stepped(hall, person, steps)
            steps[0] -= 1
            self.assertEqual(told.steps()[person], tuple(before))

    def test_of_all_else(self):
        wrong = [[1, 1], (2, 1), [1, 2, 3, 4, 5], [], (), [1, 2, 2], [True], [0, True], [1, None], ["1"], [[1]], [1, [2]],
                 "12", 7, None, True, {}, [3, 2, 1]]
        right = [[1], (1,), (1, 2), [0], (-3, 0, 5), [1, 2]]
        for thing in wrong + [thing for thing in THINGS if thing not in right]:
            for person in range(3):
                with self.assertRaises(BadHall) as caught:
                    stepped(HALL, person, thing)
                self.assertEqual(caught.exception.part, "steps")
            self.assertRaises(NoPerson, stepped, HALL, 3, thing)
        for thing in right:
            self.assertEqual(stepped(HALL, 0, thing).steps()[0], tuple(thing))


class Pieces(unittest.TestCase):
    def test_by_hand(self):
        self.assertEqual(as_piece(HALL, [0, 2]), Hall([[1, 3], [7, 9]], [[1, 2], [-1, 5, 7]], (2, -1)))
        self.assertEqual(as_piece(piece=(1,), hall=HALL), Hall([[5]], [[0]], (2, -1)))
        self.assertEqual(as_piece(HALL, [0, 1, 2]), HALL)

    def test_drawn(self):
        draw = Random(202)
        for hall, _, _ in draws(203, 100):
            piece = sorted(draw.sample(range(len(hall)), draw.randint(1, len(hall))))
            before = list(piece)
            told = as_piece(hall, piece)
            self.assertEqual(as_piece(hall, tuple(piece)), told)
            self.assertEqual(piece, before)
            self.assertEqual((len(told), told.memory()), (len(piece), hall.memory()))
            for a, one in enumerate(piece):
                self.assertEqual(told.steps()[a], hall.steps()[one])
                for b, other in enumerate(piece):
                    self.assertEqual(told.strings()[a][b], hall.strings()[one][other])

    def test_pieces_go_on_by_themselves(self):
        draw = Random(204)
        for _ in range(80):
            persons = draw.randint(1, 6)
            strings = [[draw.choice((0, 0, 0, 0, 1, -2)) for _ in range(persons)] for _ in range(persons)]
            hall = Hall(strings, [draw_steps(draw, draw.randint(1, 3), 3) for _ in range(persons)], draw.choice(WEIGHTS))
            past = draw_past(draw, hall)
            rows = history_of(hall, past, 20)
            for piece in pieces_of(hall):
                told = history(as_piece(hall, piece), [tuple(one[p] for p in piece) for one in past], 20)
                self.assertEqual(told, [tuple(one[p] for p in piece) for one in rows])

    def test_a_piece_may_be_even_where_the_hall_is_not(self):
        hall = beside(Hall([[0, 1], [1, 0]], [[1], [1]]), Hall([[0, 1], [0, 0]], [[1], [1]]))
        self.assertEqual(word_of(hall), "")
        self.assertEqual([word_of(as_piece(hall, piece)) for piece in pieces_of(hall)], ["even", ""])


class Parting(unittest.TestCase):
    def test_by_hand(self):
        one = Hall([[0, 2], [2, 0]], [[1], [1]])
        self.assertIsNone(parting_past(one, one))
        self.assertIsNone(parting_past(one, Hall([[0, 9], [1, 0]], [[2], [1]])))
        self.assertEqual(parting_past(one, Hall([[0, 2], [2, 0]], [[3], [1]])), [(0, 1)])
        self.assertEqual(parting_past(other=one, one=Hall([[0, 2], [2, 0]], [[1], [3]])), [(1, 0)])
        self.assertEqual(parting_past(Hall([[1]], [[1]], (0, 1)), Hall([[1]], [[1]], (0, 2))), None)
        self.assertEqual(parting_past(Hall([[1]], [[1]], (0, 1)), Hall([[1]], [[1]], (1, 1))), [(0,), (1,)])

    def test_against_all_pasts(self):
        draw, alike, unlike = Random(205), 0, 0
        for at in range(150):
            persons, beats = draw.randint(1, 3), draw.choice((1, 1, 2))
            memories = [weights for weights in WEIGHTS if len(weights) == beats]
            one = draw_hall(draw, persons, draw.choice(memories), 2)
            while len(pasts_of(one)) > 700:
                one = draw_hall(draw, persons, draw.choice(memories), 2)
            if at % 2:
                other = Hall([[string + (draw.random() < 0.1) for string in row] for row in one.strings()], one.steps(),
                             one.memory())
            else:
                strings = [[draw.randint(-2, 2) for _ in range(persons)] for _ in range(persons)]
                other = Hall(strings, [draw_steps(draw, top, 4) for top in one.tops()], draw.choice(memories))
            first = next((past for past in pasts_of(one) if next_of(one, past) != next_of(other, past)), None)
            told = parting_past(one, other)
            self.assertEqual(told, first)
            self.assertEqual(parting_past(other, one), first)
            if told is not None:
                self.assertEqual([type(told)] + [type(then) for then in told], [list] + [tuple] * beats)
                self.assertNotEqual(lean(one, told), lean(other, told))
            alike += told is None
            unlike += told is not None
        self.assertGreater(alike, 20)
        self.assertGreater(unlike, 40)

    def test_just_4096_pasts_and_more(self):
        one = Hall([[0] * 6] * 6, [[1]] * 6, (1, 1))
        self.assertIsNone(parting_past(one, one))
        last = Hall([[0] * 6] * 5 + [[1] * 6], [[1]] * 5 + [[12]], (1, 1))
        self.assertEqual(parting_past(one, last), [(1,) * 6] * 2)
        for persons, steps, memory, many in ((7, [[1]] * 7, (1, 1), 2 ** 14), (2, [[1, 2, 3, 4]] * 2, (1,) * 5, 5 ** 10),
                                             (13, [[1]] * 13, (1,), 2 ** 13), (12, [[1, 2, 3, 4]] * 12, (1,) * 5, 5 ** 60)):
            hall = Hall([[0] * persons] * persons, steps, memory)
            with self.assertRaises(TooMany) as caught:
                parting_past(hall, hall)
            self.assertEqual(caught.exception.many, many)

    def test_lead_over_and_back(self):
        draw = Random(206)
        for _ in range(20):
            hall = draw_hall(draw, 2, draw.choice([(1,), (1, -1)]))
            person = draw.randrange(2)
            self.assertIsNone(parting_past(hall, turned_over(turned_over(hall, person), person)))


class Strangers(unittest.TestCase):
    def check(self, person, ask):
        with self.assertRaises(NoPerson) as caught:
            ask()
        self.assertEqual(caught.exception.person, person)

    def test_each_and_the_first_by_places(self):
        for person in STRANGERS:
            self.check(person, lambda: turned_over(HALL, person))
            self.check(person, lambda: left_out(HALL, person, 0))
            self.check(person, lambda: left_out(HALL, person, 77))
            self.check(person, lambda: tied(HALL, person, 0, 1))
            self.check(person, lambda: tied(HALL, 0, person, 1))
            self.check(person, lambda: tied(HALL, person, 55, 1))
            self.check(person, lambda: tied(HALL, person, person, 1, back=2))
            self.check(person, lambda: tied(other=55, one=person, weight=2, hall=HALL))
            self.check(person, lambda: stepped(HALL, person, [1]))
            self.check(person, lambda: stepped(HALL, person, "x"))
            for thing in NUMBERS:
                self.check(person, lambda: stepped(HALL, person, thing))
        for piece, person in (([3], 3), ([0, 1, 2, 3], 3), ([-1, 0], -1), ([-2, -1, 5], -2), ([1, 4, 9], 4), ((2, 7, 8), 7)):
            self.check(person, lambda: as_piece(HALL, piece))

    def test_nobody_is_changed(self):
        before = deepcopy(HALL)
        turned_over(HALL, 0), left_out(HALL, 0, 1), tied(HALL, 0, 1, 5), stepped(HALL, 0, [9]), as_piece(HALL, [1])
        beside(HALL, HALL), parting_past(Hall([[1]], [[1]]), Hall([[2]], [[1]]))
        self.assertEqual(HALL, before)

    def test_told_halls_of_any_size(self):
        draw = Random(207)
        wide = folded(draw_even(draw, 4))
        past = [draw_standing(draw, wide)]
        self.assertEqual(history(left_out(wide, 0, 1), [past[0][1:]], 9),
                         [one[1:] for one in history_of(wide, past, 9, [(0, 1)])])


if __name__ == "__main__":
    unittest.main()
