import unittest
from copy import deepcopy
from random import Random

from swayhalls.beats import Sway, history
from swayhalls.errors import BadPosture, NoPerson, NotHeld
from swayhalls.halls import Hall
from tests.draws import draw_hall, draw_past, draws
from tests.plain import held_in, next_of

RING = Hall([[0, 0, 1], [1, 0, 0], [0, 1, 0]], [[1]] * 3)
# it does what it did two beats ago, and takes in person 1
PAIR = Hall([[1, 1], [0, 1]], [[1, 2], [1, 2, 3]], [0, 1])


def shown(sway):
    return sway.past(), sway.held(), len(sway)


class Beats(unittest.TestCase):
    def test_by_hand(self):
        sway = Sway(RING, [(1, 0, 0)])
        self.assertEqual(shown(sway), ([(1, 0, 0)], [], 0))
        self.assertEqual(sway.beat(), (0, 1, 0))
        self.assertEqual(shown(sway), ([(0, 1, 0)], [], 1))
        self.assertEqual(sway.beat(0), (0, 1, 0))
        self.assertEqual(len(sway), 1)
        self.assertEqual(sway.beat(4), (0, 0, 1))
        self.assertEqual(len(sway), 5)
        self.assertEqual(sway.beat(many=2), (0, 1, 0))
        self.assertEqual(len(sway), 7)
        self.assertEqual(sway.beat(2000), (1, 0, 0))
        self.assertEqual(len(sway), 2007)

    def test_as_history_goes(self):
        for hall, past, held in draws(20, 150):
            beats = len(hall.memory())
            told = history(hall, past, 30, held=held)
            sway = Sway(hall, past, held=held)
            self.assertEqual(shown(sway), (told[:beats], sorted(held), 0))
            gone = 0
            for many in (0, 1, 0, 2, 1, 7, 0, 12, 1):
                gone += many
                self.assertEqual(sway.beat(many), told[gone + beats - 1])
                self.assertEqual(shown(sway), (told[gone:gone + beats], sorted(held), gone))

    def test_handed_in_in_any_form(self):
        for hall, past, held in draws(21, 60):
            told = history(hall, past, 9, held=held)[-1]
            for form in (held, tuple(held), held[::-1], tuple(sorted(held))):
                for sway in (Sway(hall, past, held=form), Sway(hall, tuple(past), held=form),
                             Sway(held=form, past=past, hall=hall)):
                    self.assertEqual(sway.held(), sorted(held))
                    self.assertEqual(sway.beat(many=9), told)

    def test_held_by_its_name_alone(self):
        self.assertRaises(TypeError, Sway, RING, [(1, 0, 0)], [])

    def test_held_from_the_start_are_so_in_the_past_too(self):
        sway = Sway(PAIR, [(0, 0), (1, 2)], held=[(1, 3)])
        self.assertEqual(sway.past(), [(0, 3), (1, 3)])


class Holding(unittest.TestCase):
    def test_what_is_remembered_stays_as_it_was(self):
        sway = Sway(PAIR, [(0, 0), (1, 0)])
        self.assertIsNone(sway.hold(1, 2))
        self.assertEqual(shown(sway), ([(0, 0), (1, 0)], [(1, 2)], 0))
        # two beats still go by what person 1 was, and it stands so at once
        self.assertEqual(sway.beat(), (0, 2))
        self.assertEqual(sway.beat(), (1, 2))
        self.assertEqual(sway.beat(), (2, 2))
        self.assertIsNone(sway.loose(1))
        self.assertEqual(shown(sway), ([(1, 2), (2, 2)], [], 3))
        self.assertEqual(sway.beat(2), (2, 2))

    def test_hold_again_takes_the_new_posture(self):
        sway = Sway(PAIR, [(0, 0), (1, 0)], held=[(1, 3)])
        sway.hold(1, 1)
        self.assertEqual(shown(sway), ([(0, 3), (1, 3)], [(1, 1)], 0))
        sway.hold(person=1, posture=1)
        self.assertEqual(sway.held(), [(1, 1)])
        self.assertEqual(sway.beat(), (2, 1))

    def test_held_rises_however_it_came(self):
        hall = Hall([[0] * 5] * 5, [[1, 2]] * 5)
        sway = Sway(hall, [(0,) * 5], held=[(4, 1), (0, 2), (3, 0)])
        self.assertEqual(sway.held(), [(0, 2), (3, 0), (4, 1)])
        sway.hold(1, 1)
        sway.hold(0, 0)
        self.assertEqual(sway.held(), [(0, 0), (1, 1), (3, 0), (4, 1)])
        sway.loose(person=3)
        self.assertEqual(sway.held(), [(0, 0), (1, 1), (4, 1)])
        sway.hold(3, 2)
        self.assertEqual(sway.held(), [(0, 0), (1, 1), (3, 2), (4, 1)])

    def test_against_plain_words(self):
        draw = Random(22)
        for _ in range(60):
            hall = draw_hall(draw)
            past, grips = draw_past(draw, hall), {}
            sway, gone = Sway(hall, past), 0
            for _ in range(25):
                person = draw.randrange(len(hall))
                deed = draw.choice(("beat", "beat", "hold", "loose"))
                if deed == "hold":
                    grips[person] = draw.randint(0, hall.tops()[person])
                    sway.hold(person, grips[person])
                elif deed == "loose" and person in grips:
                    del grips[person]
                    sway.loose(person)
                elif deed == "beat":
                    past, gone = past[1:] + [next_of(hall, past, grips.items())], gone + 1
                    self.assertEqual(sway.beat(), past[-1])
                self.assertEqual(shown(sway), (past, sorted(grips.items()), gone))


class Refusals(unittest.TestCase):
    def setUp(self):
        self.sway = Sway(PAIR, [(0, 1), (2, 3)], held=[(0, 2)])
        self.sway.beat(3)

    def check(self, error, field, worth, deed, *handed):
        before, twin = shown(self.sway), self.sway.twin()
        with self.assertRaises(error) as caught:
            deed(*handed)
        self.assertIs(type(caught.exception), error)
        self.assertEqual(getattr(caught.exception, field), worth)
        self.assertEqual(shown(self.sway), before)
        self.assertEqual(self.sway, twin)
        self.assertEqual(twin.beat(5), self.sway.twin().beat(5))

    def test_no_such_person(self):
        for person in (-1, -2, 2, 3, 12, 10 ** 30, -10 ** 30):
            self.check(NoPerson, "person", person, self.sway.hold, person, 0)
            self.check(NoPerson, "person", person, self.sway.loose, person)

    def test_no_such_posture(self):
        for person, top in ((0, 2), (1, 3)):
            for posture in (-1, top + 1, top + 5, -10 ** 30, 10 ** 30):
                self.check(BadPosture, "posture", posture, self.sway.hold, person, posture)
            self.sway.hold(person, top)
            self.sway.hold(person, 0)

    def test_person_goes_ahead_of_posture(self):
        for person in (-1, 2, 7):
            for posture in (-1, 9, 10 ** 30):
                self.check(NoPerson, "person", person, self.sway.hold, person, posture)

    def test_not_held(self):
        self.check(NotHeld, "person", 1, self.sway.loose, 1)
        self.sway.loose(0)
        self.check(NotHeld, "person", 0, self.sway.loose, 0)
        self.sway.hold(0, 0)
        self.sway.loose(0)
        self.check(NotHeld, "person", 0, self.sway.loose, 0)

    def test_held_at_posture_0_is_held(self):
        self.sway.hold(1, 0)
        self.assertEqual(self.sway.held(), [(0, 2), (1, 0)])
        self.assertIsNone(self.sway.loose(1))


class Twins(unittest.TestCase):
    def test_go_on_by_themselves(self):
        for hall, past, held in draws(23, 60):
            sway = Sway(hall, past, held=held)
            sway.beat(4)
            sway.hold(0, hall.tops()[0])
            twin = sway.twin()
            self.assertIsInstance(twin, Sway)
            self.assertIsNot(twin, sway)
            self.assertEqual(shown(twin), shown(sway))
            kept = shown(sway)
            ahead = twin.beat(6)
            self.assertEqual(shown(sway), kept)
            self.assertEqual(sway.beat(6), ahead)
            self.assertEqual(shown(twin), shown(sway))
            kept = shown(twin)
            sway.loose(0)
            sway.beat()
            self.assertEqual(shown(twin), kept)
            twin.hold(0, 0)
            self.assertNotIn((0, 0), sway.held())

    def test_remember_what_was_though_somebody_is_held(self):
        sway = Sway(PAIR, [(0, 0), (1, 0)])
        sway.hold(1, 3)
        twin = sway.twin()
        self.assertEqual(shown(twin), ([(0, 0), (1, 0)], [(1, 3)], 0))
        self.assertEqual(twin.beat(), (0, 3))
        self.assertEqual(shown(sway), ([(0, 0), (1, 0)], [(1, 3)], 0))


class Likeness(unittest.TestCase):
    def check(self, told, one, other):
        self.assertIs(one == other, told)
        self.assertIs(other == one, told)
        self.assertIs(one != other, not told)

    def test_twin_and_the_same_made_otherwise(self):
        sway = Sway(PAIR, [(0, 0), (1, 0)])
        self.check(True, sway, sway)
        self.check(True, sway, sway.twin())
        same = Sway(Hall(PAIR.strings(), PAIR.steps(), PAIR.memory()), ((0, 0), (1, 0)))
        self.check(True, sway, same)
        sway.hold(1, 2)
        sway.hold(0, 1)
        same.hold(0, 1)
        same.hold(1, 2)
        self.check(True, sway, same)

    def test_how_many_beats_have_come_is_no_matter(self):
        sway, other = Sway(RING, [(1, 0, 0)]), Sway(RING, [(1, 0, 0)])
        other.beat(3)
        self.assertEqual((len(sway), len(other)), (0, 3))
        self.check(True, sway, other)
        other.beat()
        self.check(False, sway, other)

    def test_another_past(self):
        sway = Sway(PAIR, [(0, 0), (1, 0)])
        for past in ([(0, 1), (1, 0)], [(0, 0), (1, 1)], [(1, 0), (0, 0)]):
            self.check(False, sway, Sway(PAIR, past))

    def test_others_held(self):
        past = [(0, 0), (0, 0)]
        sway = Sway(PAIR, past, held=[(1, 0)])
        for held in ((), [(0, 0)], [(0, 0), (1, 0)]):
            self.assertEqual(Sway(PAIR, past, held=held).past(), sway.past())
            self.check(False, sway, Sway(PAIR, past, held=held))
        other = Sway(PAIR, past)
        self.check(False, sway, other)
        other.hold(1, 1)
        self.check(False, sway, other)
        other.hold(1, 0)
        self.check(True, sway, other)
        other.loose(1)
        self.check(False, sway, other)

    def test_another_hall(self):
        past = [(0, 0), (0, 0)]
        for hall in (Hall([[1, 1], [0, 2]], [[1, 2], [1, 2, 3]], [0, 1]),
                     Hall([[1, 1], [0, 1]], [[1, 3], [1, 2, 3]], [0, 1]),
                     Hall([[1, 1], [0, 1]], [[1, 2], [1, 2, 3]], [0, 2])):
            self.check(False, Sway(PAIR, past), Sway(hall, past))

    def test_nothing_of_another_class(self):
        sway = Sway(RING, [(1, 0, 0)])
        for other in (0, 1, None, True, False, "", "Sway", [], (), [(1, 0, 0)], RING, sway.past(), sway.held(),
                      shown(sway),
                      [sway], object(), Sway):
            self.check(False, sway, other)


class HandedIn(unittest.TestCase):
    def test_nothing_is_changed_nor_kept(self):
        for hall, past, held in draws(24, 60):
            before = deepcopy((past, held))
            sway = Sway(hall, past, held=held)
            same = Sway(hall, tuple(past), held=tuple(held))
            sway.beat(2)
            same.beat(2)
            self.assertEqual((past, held), before)
            past.clear()
            held.clear()
            self.assertEqual(shown(sway), shown(same))
            self.assertEqual(sway.beat(3), same.beat(3))

    def test_told_lists_changed_change_no_answer(self):
        sway = Sway(PAIR, [(0, 0), (1, 0)], held=[(1, 2)])
        for _ in range(3):
            kept, twin = shown(sway), sway.twin()
            for told in (sway.past(), sway.held()):
                told.append("x")
                told[0] = None
                told.reverse()
            self.assertEqual(shown(sway), kept)
            self.assertEqual(sway, twin)
            self.assertEqual(sway.beat(), twin.beat())
        self.assertIsNot(sway.past(), sway.past())
        self.assertIsNot(sway.held(), sway.held())

    def test_told_lists_do_not_change_by_beats(self):
        sway = Sway(PAIR, [(0, 0), (1, 0)])
        past, held = sway.past(), sway.held()
        sway.hold(1, 1)
        sway.beat(3)
        self.assertEqual((past, held), ([(0, 0), (1, 0)], []))

    def test_asking_changes_nothing(self):
        for hall, past, held in draws(25, 30):
            asked, other = Sway(hall, past, held=held), Sway(hall, past, held=held)
            for _ in range(4):
                shown(asked), asked.twin(), asked == other
                self.assertEqual(asked.beat(), other.beat())

    def test_what_was_told_may_be_handed_in_again(self):
        for hall, past, held in draws(26, 60):
            sway = Sway(hall, past, held=held)
            sway.beat(3)
            again = Sway(hall, sway.past(), held=sway.held())
            self.assertEqual(again, sway)
            self.assertEqual(again.beat(5), sway.beat(5))

    def test_held_in_is_what_the_tests_take_it_for(self):
        self.assertEqual(held_in((0, 1, 2), [(2, 0), (0, 1)]), (1, 1, 0))


if __name__ == "__main__":
    unittest.main()
