import unittest
from copy import deepcopy
from random import Random

from swayhalls.beats import Sway, history
from swayhalls.errors import (
    BadDeed, BadHall, BadPast, BadPosture, Known, NoHall, NoPerson, NotEven, NotHeld,
)
from swayhalls.halls import Hall
from swayhalls.kinds import word_of
from swayhalls.over import stepped, tied
from swayhalls.rounds import round_on
from swayhalls.worth import bound_of
from swayhalls.yard import Yard
from tests.draws import draw_even, draw_hall, draw_mirrored, draw_past, draw_steps
from tests.plain import next_of
from tests.samples import THINGS

HALL = Hall([[0, 2], [3, 0]], [[2], [1, 4]])
PAST = [(1, 2)]
WORDS = ("build", "raze", "beat", "hold", "loose", "tie", "step")


class Plain:
    """A yard once more, by the document's words: a dict of plain rows for each name, and all that were, for undo."""

    def __init__(self):
        self.now, self.were = {}, []

    def deed(self, word, name, *handed):
        if word == "build":
            if name in self.now:
                raise Known(name)
            hall, past = handed
            row = {"hall": hall, "past": list(past), "held": {}, "beats": 0}
            return self.lay(name, row, None)
        if name not in self.now:
            raise NoHall(name)
        row = deepcopy(self.now[name])
        told = None if word == "raze" else getattr(self, "do_" + word)(row, *handed)
        return self.lay(name, None if word == "raze" else row, told)

    def lay(self, name, row, told):
        self.were.append(self.now)
        self.now = {key: value for key, value in self.now.items() if key != name}
        if row is not None:
            self.now[name] = row
        return told

    def undo(self):
        if not self.were:
            return False
        self.now = self.were.pop()
        return True

    def do_beat(self, row, many):
        for _ in range(many):
            later = next_of(row["hall"], row["past"], row["held"].items())
            row["past"] = row["past"][1:] + [later]
        row["beats"] += many
        return row["past"][-1]

    def do_hold(self, row, person, posture):
        if person not in range(len(row["hall"])):
            raise NoPerson(person)
        if posture not in range(row["hall"].tops()[person] + 1):
            raise BadPosture(posture)
        row["held"][person] = posture

    def do_loose(self, row, person):
        if person not in range(len(row["hall"])):
            raise NoPerson(person)
        if person not in row["held"]:
            raise NotHeld(person)
        del row["held"][person]

    def do_tie(self, row, one, other, weight):
        row["hall"] = tied(row["hall"], one, other, weight)

    def do_step(self, row, person, steps):
        row["hall"] = stepped(row["hall"], person, steps)
        top = len(steps)
        row["past"] = [tuple(min(posture, top) if one == person else posture for one, posture in enumerate(then))
                       for then in row["past"]]
        if person in row["held"]:
            row["held"][person] = min(top, row["held"][person])


def told_of(yard):
    """All that a yard tells of itself, but its marks and what can be undone."""
    return {name: (yard.hall(name), yard.past(name), yard.held(name), yard.beats(name)) for name in yard.names()}


def told_of_plain(plain):
    return {name: (row["hall"], row["past"], sorted(row["held"].items()), row["beats"])
            for name, row in plain.now.items()}


def draw_deed(draw, yard):
    """A deed, refused or not, at one of few names; yard tells what is there."""
    name = draw.choice(("a", "b", "cc"))
    word = draw.choice(WORDS + ("beat", "hold", "step") if name in yard.names() else ("build",) * 9 + WORDS)
    if word == "raze" and draw.random() < 0.6:
        word = "beat"
    if word == "build":
        hall = draw.choice((draw_hall, draw_even, draw_mirrored))(draw, draw.randint(2, 3))
        return ("build", name, hall, draw_past(draw, hall))
    if word == "raze":
        return ("raze", name)
    if word == "beat":
        return ("beat", name, draw.choice((0, 1, 1, 2, 7)))
    person = draw.choice((0, 0, 1, 1, 2, 3, -1))
    if word == "hold":
        return ("hold", name, person, draw.choice((0, 1, 2, 3, 5, -1)))
    if word == "loose":
        return ("loose", name, person)
    if word == "tie":
        return ("tie", name, person, draw.choice((0, 1, 2, 9)), draw.randint(-9, 9))
    return ("step", name, person, draw.choice((draw_steps(draw, draw.randint(1, 4), 9), [2, 1], [])))


def outcome(ask):
    """What is told, or the refusal's class and fields."""
    try:
        return ("told", ask())
    except (Known, NoHall, NoPerson, BadPosture, NotHeld, BadHall, BadPast, NotEven, BadDeed) as refusal:
        return (type(refusal), vars(refusal))


def by_method(yard, deed):
    return getattr(yard, deed[0])(*deed[1:])


def rings(sizes):
    """Rings of so many persons each, in each of which one stands at 1, and hands it on at each beat."""
    strings = [[0] * sum(sizes) for _ in range(sum(sizes))]
    standing, first = [0] * sum(sizes), 0
    for size in sizes:
        for at in range(size):
            strings[first + at][first + (at - 1) % size] = 1
        standing[first] = 1
        first += size
    return Hall(strings, [[1]] * sum(sizes)), tuple(standing)


def built():
    yard = Yard()
    yard.build("a", HALL, PAST)
    return yard


class Deeds(unittest.TestCase):
    def test_by_hand(self):
        yard = Yard()
        self.assertEqual((len(yard), yard.names(), yard.marks(), yard.is_open()), (0, [], [], True))
        self.assertIsNone(yard.build("b", HALL, PAST))
        self.assertIsNone(yard.build(name="a", past=tuple(PAST), hall=HALL))
        self.assertEqual((len(yard), yard.names()), (2, ["a", "b"]))
        self.assertEqual(yard.beat("a", 1), (1, 1))
        self.assertEqual(yard.beat(many=3, name="a"), (1, 1))
        self.assertEqual(yard.beat("a", 0), (1, 1))
        self.assertEqual((yard.beats("a"), yard.beats("b")), (4, 0))
        self.assertEqual((yard.past("a"), yard.past("b")), ([(1, 1)], [(1, 2)]))
        self.assertIsNone(yard.hold("a", 1, 2))
        self.assertIsNone(yard.hold(posture=0, person=0, name="a"))
        self.assertEqual(yard.held("a"), [(0, 0), (1, 2)])
        self.assertIsNone(yard.loose(person=1, name="a"))
        self.assertEqual((yard.held("a"), yard.held("b")), ([(0, 0)], []))
        # what is remembered stays as it was when somebody is held
        self.assertEqual(yard.past("a"), [(1, 1)])
        self.assertIsNone(yard.tie("a", 0, 1, 5))
        self.assertEqual(yard.hall("a"), Hall([[0, 5], [5, 0]], [[2], [1, 4]]))
        self.assertIsNone(yard.tie(weight=7, other=1, one=1, name="a"))
        self.assertEqual(yard.hall("a").strings(), ((0, 5), (5, 7)))
        self.assertIsNone(yard.step("a", 0, [0, 3]))
        self.assertIsNone(yard.step(steps=(1,), person=1, name="a"))
        self.assertEqual(yard.hall("a"), Hall([[0, 5], [5, 7]], [[0, 3], [1]]))
        self.assertEqual(yard.hall("b"), HALL)
        self.assertEqual((yard.beats("a"), yard.held("a"), yard.past("a")), (4, [(0, 0)], [(1, 1)]))
        self.assertIsNone(yard.raze("a"))
        self.assertEqual(yard.names(), ["b"])
        self.assertIsNone(yard.raze(name="b"))
        self.assertEqual(len(yard), 0)

    def test_asks(self):
        draw = Random(210)
        for at in range(60):
            hall = (draw_even if at % 3 == 0 else draw_mirrored if at % 3 == 1 else draw_hall)(draw)
            past, yard = draw_past(draw, hall), Yard()
            yard.build("x", hall, past)
            sway = Sway(hall, past)
            if draw.random() < 0.5:
                yard.hold("x", 0, 1)
                sway.hold(0, 1)
            many = draw.randint(0, 5)
            self.assertEqual(yard.beat("x", many), sway.beat(many))
            self.assertEqual(yard.round("x"), round_on(sway))
            self.assertEqual(yard.round(name="x"), yard.round("x"))
            self.assertEqual(yard.word("x"), word_of(hall))
            self.assertEqual(yard.word(name="x"), word_of(hall))
            self.assertEqual(outcome(lambda: yard.bound("x")), outcome(lambda: bound_of(hall)))
            self.assertEqual(outcome(lambda: yard.bound(name="x")), outcome(lambda: bound_of(hall)))
            self.assertEqual((yard.past(name="x"), yard.held(name="x"), yard.beats(name="x"), yard.hall(name="x")),
                             (sway.past(), sway.held(), len(sway), hall))

    def test_a_round_that_takes_too_long(self):
        yard = Yard()
        for name, sizes, told in (("a", (5, 7), (0, 35)), ("b", (3, 4, 5), (0, 60)), ("c", (5, 8, 9), (0, 360)),
                                  ("d", (16, 25), (0, 400)), ("e", (3, 4, 5, 7), None), ("f", (4, 101), None)):
            hall, standing = rings(sizes)
            yard.build(name, hall, [standing])
            self.assertEqual(yard.round(name), told)

    def test_a_posture_above_a_new_top_is_that_top(self):
        hall = Hall([[0, 1], [1, 0]], [[1, 2, 3, 4], [1, 2]], (1, 1, 1))
        yard = Yard()
        yard.build("a", hall, [(4, 2), (1, 0), (3, 1)])
        yard.hold("a", 0, 4)
        yard.hold("a", 1, 2)
        yard.step("a", 0, [5, 6])
        self.assertEqual(yard.past("a"), [(2, 2), (1, 0), (2, 1)])
        self.assertEqual(yard.held("a"), [(0, 2), (1, 2)])
        yard.step("a", 0, [5, 6, 7])
        self.assertEqual((yard.past("a"), yard.held("a")), ([(2, 2), (1, 0), (2, 1)], [(0, 2), (1, 2)]))
        yard.step("a", 1, [1])
        self.assertEqual((yard.past("a"), yard.held("a")), ([(2, 1), (1, 0), (2, 1)], [(0, 2), (1, 1)]))
        for _ in range(3):
            self.assertIs(yard.undo(), True)
        self.assertEqual((yard.past("a"), yard.held("a")), ([(4, 2), (1, 0), (3, 1)], [(0, 4), (1, 2)]))

    def test_against_plain_rows(self):
        draw, seen = Random(211), set()
        for _ in range(40):
            yard, plain = Yard(), Plain()
            for _ in range(60):
                if draw.random() < 0.15:
                    self.assertIs(yard.undo(), plain.undo())
                else:
                    deed = draw_deed(draw, yard)
                    told = outcome(lambda: plain.deed(*deed))
                    self.assertEqual(outcome(lambda: by_method(yard, deed)), told, deed)
                    seen.add((deed[0], told[0]))
                self.assertEqual(told_of(yard), told_of_plain(plain))
                self.assertEqual(len(yard), len(plain.now))
            while plain.undo():
                self.assertIs(yard.undo(), True)
                self.assertEqual(told_of(yard), told_of_plain(plain))
            self.assertIs(yard.undo(), False)
            self.assertEqual((len(yard), yard.marks()), (0, []))
        self.assertGreaterEqual(seen, {
            *((word, "told") for word in WORDS), ("build", Known), *((word, NoHall) for word in WORDS if word != "build"),
            ("hold", NoPerson), ("hold", BadPosture), ("loose", NoPerson), ("loose", NotHeld), ("tie", NoPerson),
            ("step", NoPerson), ("step", BadHall)})


class Refusals(unittest.TestCase):
    def check(self, kind, field, worth, ask, yard):
        before, twin = told_of(yard), yard.twin()
        with self.assertRaises(kind) as caught:
            ask()
        if field is not None:
            self.assertEqual(getattr(caught.exception, field), worth)
        self.assertEqual(told_of(yard), before)
        self.assertEqual(yard, twin)
        self.assertEqual(yard.marks(), twin.marks())

    def test_no_hall_goes_first(self):
        yard = built()
        for ask in (lambda: yard.raze("z"), lambda: yard.beat("z", 1), lambda: yard.hold("z", 9, 9),
                    lambda: yard.loose("z", 9), lambda: yard.tie("z", 9, 9, 9), lambda: yard.step("z", 9, "no"),
                    lambda: yard.hall("z"), lambda: yard.past("z"), lambda: yard.held("z"), lambda: yard.beats("z"),
                    lambda: yard.round("z"), lambda: yard.bound("z"), lambda: yard.word("z")):
            self.check(NoHall, "name", "z", ask, yard)
        self.assertIs(yard.undo(), True)
        self.assertIs(yard.undo(), False)

    def test_others_in_their_order(self):
        yard = built()
        self.check(Known, "name", "a", lambda: yard.build("a", HALL, PAST), yard)
        self.check(Known, "name", "a", lambda: yard.build("a", HALL, "no past"), yard)
        self.check(NoPerson, "person", 2, lambda: yard.hold("a", 2, 99), yard)
        self.check(BadPosture, "posture", 3, lambda: yard.hold("a", 1, 3), yard)
        self.check(BadPosture, "posture", -1, lambda: yard.hold("a", 0, -1), yard)
        self.check(NoPerson, "person", -1, lambda: yard.loose("a", -1), yard)
        self.check(NotHeld, "person", 1, lambda: yard.loose("a", 1), yard)
        self.check(NoPerson, "person", 5, lambda: yard.tie("a", 5, 6, 1), yard)
        self.check(NoPerson, "person", 6, lambda: yard.tie("a", 0, 6, 1), yard)
        self.check(NoPerson, "person", 2, lambda: yard.step("a", 2, [2, 1]), yard)
        for thing in THINGS + [[2, 1], [1, 1], [1, 2, 3, 4, 5], []]:
            if thing not in ([0], (1,), [1, 2], (-3, 0, 5)):
                self.check(BadHall, "part", "steps", lambda: yard.step("a", 0, thing), yard)

    def test_pasts_that_are_none(self):
        yard = built()
        two = Hall([[0, 2], [3, 0]], [[2], [1, 4]], (1, 1))
        for past in THINGS + [[(2, 0)], [(0, 3)], [(0, -1)], [(0,)], [(0, 0, 0)], [[0, 0]], ([0, 0],), [(0, 0), (0, 0)],
                              (0, 0), [(True, 0)], [(0, None)], "", None, [("0", 0)]]:
            self.check(BadPast, None, None, lambda: yard.build("b", HALL, past), yard)
        self.check(BadPast, None, None, lambda: yard.build("b", two, [(0, 0)]), yard)
        yard.build("b", two, ((0, 0), (1, 2)))
        self.assertEqual(yard.past("b"), [(0, 0), (1, 2)])

    def test_bound_of_halls_that_are_neither(self):
        yard = Yard()
        yard.build("a", Hall([[0, 1], [0, 0]], [[1], [1]]), [(0, 0)])
        self.check(NotEven, None, None, lambda: yard.bound("a"), yard)
        self.assertEqual(yard.word("a"), "")
        # of its hall alone: who is held isn't looked at
        yard.build("b", Hall([[0, 1], [-1, 0]], [[1], [0]]), [(0, 0)])
        yard.hold("b", 0, 1)
        self.assertEqual((yard.word("b"), yard.bound("b")), ("mirrored", 2))


class Undone(unittest.TestCase):
    def test_razed_and_built_again(self):
        yard = built()
        yard.beat("a", 5)
        yard.hold("a", 0, 0)
        before = told_of(yard)
        yard.raze("a")
        yard.build("a", Hall([[1]], [[1]]), [(1,)])
        yard.beat("a", 2)
        for names in (["a"], [], ["a"]):
            self.assertIs(yard.undo(), True)
            self.assertEqual(yard.names(), names)
        self.assertEqual(told_of(yard), before)
        for beats, held in ((5, []), (0, [])):
            self.assertIs(yard.undo(), True)
            self.assertEqual((yard.beats("a"), yard.held("a")), (beats, held))
        self.assertEqual(yard.past("a"), PAST)
        self.assertIs(yard.undo(), True)
        self.assertIs(yard.undo(), False)
        self.assertEqual(yard.names(), [])

    def test_at_several_names(self):
        yard = built()
        yard.build("b", HALL, [(0, 1)])
        yard.beat("a", 1)
        yard.beat("b", 1)
        yard.undo()
        self.assertEqual((yard.beats("a"), yard.beats("b")), (1, 0))
        yard.beat("b", 3)
        yard.undo()
        yard.undo()
        self.assertEqual((yard.beats("a"), yard.beats("b")), (0, 0))

    def test_100_deeds_and_more(self):
        yard = built()
        for _ in range(300):
            yard.beat("a", 1)
        self.assertEqual(yard.beats("a"), 300)
        for beats in range(299, -1, -1):
            self.assertIs(yard.undo(), True)
            self.assertEqual(yard.beats("a"), beats)

    def test_refused_deeds_are_none(self):
        yard = built()
        outcome(lambda: yard.hold("a", 7, 7))
        outcome(lambda: yard.build("a", HALL, PAST))
        self.assertIs(yard.undo(), True)
        self.assertEqual(len(yard), 0)

    def test_a_deed_that_changes_nothing_is_one(self):
        yard = built()
        yard.beat("a", 0)
        self.assertIs(yard.undo(), True)
        self.assertEqual(yard.names(), ["a"])


class Twins(unittest.TestCase):
    def test_they_go_on_by_themselves(self):
        draw = Random(212)
        for _ in range(25):
            yard = Yard()
            for _ in range(20):
                deed = draw_deed(draw, yard)
                outcome(lambda: yard.do([deed], whole=draw.random() < 0.5))
            twin, told, marks = yard.twin(), told_of(yard), yard.marks()
            self.assertIsInstance(twin, Yard)
            self.assertIs(yard == twin, True)
            self.assertEqual((told_of(twin), twin.marks(), twin.is_open()), (told, marks, True))
            for _ in range(10):
                deed = draw_deed(draw, twin)
                outcome(lambda: twin.do([deed]))
            while twin.undo():
                pass
            self.assertEqual((told_of(yard), yard.marks()), (told, marks))
            other = yard.twin()
            while True:
                self.assertEqual(told_of(yard), told_of(other))
                self.assertEqual(yard, other)
                undone = other.undo()
                self.assertIs(yard.undo(), undone)
                if not undone:
                    break

    def test_the_same_done_tells_the_same(self):
        draw = Random(213)
        for _ in range(20):
            one, other = Yard(), Yard()
            for _ in range(30):
                deed = draw_deed(draw, one)
                self.assertEqual(outcome(lambda: by_method(one, deed)), outcome(lambda: by_method(other, deed)))
            self.assertEqual(one, other)
            self.assertEqual(told_of(one), told_of(other))


class Same(unittest.TestCase):
    def test_what_counts(self):
        yard = built()
        self.assertEqual(yard, built())
        self.assertNotEqual(yard, Yard())
        for change in (lambda y: y.beat("a", 1), lambda y: y.hold("a", 0, 1), lambda y: y.tie("a", 0, 1, 9),
                       lambda y: y.step("a", 0, [9]), lambda y: y.build("b", HALL, PAST), lambda y: y.raze("a")):
            other = built()
            change(other)
            self.assertIs(yard == other, False)
            self.assertIs(yard != other, True)
            other.undo()
            self.assertIs(yard == other, True)

    def test_beats_count(self):
        one, other = Yard(), Yard()
        for yard in (one, other):
            yard.build("a", HALL, [(1, 1)])
        one.beat("a", 1)
        self.assertEqual((one.past("a"), one.held("a")), (other.past("a"), other.held("a")))
        self.assertNotEqual(one, other)
        other.beat("a", 1)
        self.assertEqual(one, other)

    def test_names_count_and_marks_do_not(self):
        one, other = Yard(), Yard()
        one.build("a", HALL, PAST)
        other.build("b", HALL, PAST)
        self.assertNotEqual(one, other)
        other.do([("build", "a", HALL, PAST), ("raze", "b")])
        self.assertEqual(one, other)
        self.assertNotEqual(one.marks(), other.marks())

    def test_nothing_of_another_class(self):
        for thing in (None, 0, [], {}, "yard", object(), HALL, Sway(HALL, PAST), True):
            self.assertIs(Yard() == thing, False)
            self.assertIs(thing == Yard(), False)


class Rows(unittest.TestCase):
    def test_by_hand(self):
        yard = Yard()
        deeds = [("build", "a", HALL, PAST), ("beat", "a", 1), ("hold", "a", 0, 0), ("beat", "a", 2), ("loose", "a", 0),
                 ("tie", "a", 0, 1, 4), ("step", "a", 1, [7]), ("raze", "a")]
        before = deepcopy(deeds)
        self.assertEqual(yard.do(deeds), [None, (1, 1), None, (0, 0), None, None, None, None])
        self.assertEqual(deeds, before)
        words = ["build", "beat", "hold", "beat", "loose", "tie", "step", "raze"]
        self.assertEqual(yard.marks(), [("in", 8), *words, ("out", 8)])
        self.assertEqual(yard.do(()), [])
        self.assertEqual(yard.do(deeds=tuple(deeds[:2]), whole=False), [None, (1, 1)])
        self.assertEqual(yard.marks(), [("in", 8), *words, ("out", 8), ("in", 0), ("out", 0), ("in", 2), "build", "beat",
                                        ("out", 2)])
        self.assertRaises(TypeError, yard.do, [], True)
        # each is undone by itself
        self.assertIs(yard.undo(), True)
        self.assertEqual((yard.names(), yard.beats("a")), (["a"], 0))
        for names in ([], ["a"], ["a"], ["a"], ["a"], ["a"], ["a"], ["a"], []):
            self.assertIs(yard.undo(), True)
            self.assertEqual(yard.names(), names)
        self.assertIs(yard.undo(), False)

    def test_by_methods_or_in_rows_is_the_same(self):
        draw = Random(214)
        for _ in range(30):
            one, other = Yard(), Yard()
            for _ in range(12):
                deeds = []
                twin = one.twin()
                for _ in range(draw.randint(0, 5)):
                    deed = draw_deed(draw, twin)
                    if outcome(lambda: by_method(twin, deed))[0] == "told":
                        deeds.append(deed)
                told = one.do(draw.choice((list, tuple))(deeds), whole=draw.random() < 0.5)
                self.assertEqual(told, [by_method(other, deed) for deed in deeds])
                self.assertEqual(one, other)
            while one.undo():
                self.assertIs(other.undo(), True)
                self.assertEqual(told_of(one), told_of(other))

    def test_refused_amid_a_row_at_every_place_by_each_class(self):
        """Promised above all, [1] (g)."""
        right = [("beat", "a", 2), ("hold", "a", 1, 1), ("build", "b", HALL, [(0, 0)]), ("step", "a", 1, [3]),
                 ("tie", "b", 0, 1, -2), ("loose", "a", 1), ("raze", "b")]
        wrong = [(("build", "a", HALL, PAST), Known, "name", "a"), (("build", "c", HALL, [(9, 9)]), BadPast, None, None),
                 (("raze", "z"), NoHall, "name", "z"), (("beat", "z", 1), NoHall, "name", "z"),
                 (("hold", "z", 0, 0), NoHall, "name", "z"), (("loose", "z", 0), NoHall, "name", "z"),
                 (("tie", "z", 0, 0, 0), NoHall, "name", "z"), (("step", "z", 0, [1]), NoHall, "name", "z"),
                 (("hold", "a", 2, 0), NoPerson, "person", 2), (("loose", "a", -1), NoPerson, "person", -1),
                 (("tie", "a", 0, 4, 1), NoPerson, "person", 4), (("step", "a", 3, [1]), NoPerson, "person", 3),
                 (("hold", "a", 0, 2), BadPosture, "posture", 2), (("loose", "a", 0), NotHeld, "person", 0),
                 (("step", "a", 0, [2, 1]), BadHall, "part", "steps"), (("step", "a", 0, None), BadHall, "part", "steps")]
        for at in range(len(right) + 1):
            for deed, kind, field, worth in wrong:
                for whole in (True, False):
                    yard, other = built(), built()
                    yard.beat("a", 1)
                    other.beat("a", 1)
                    with self.assertRaises(kind) as caught:
                        yard.do(right[:at] + [deed] + right[at:], whole=whole)
                    self.assertIs(type(caught.exception), kind)
                    if field is not None:
                        self.assertEqual(getattr(caught.exception, field), worth)
                    self.assertIs(yard.is_open(), True)
                    self.assertEqual(yard.marks(), [("in", len(right) + 1), *[one[0] for one in right[:at]], ("out", at)])
                    for one in [] if whole else right[:at]:
                        by_method(other, one)
                    self.assertEqual(yard, other)
                    while other.undo():
                        self.assertIs(yard.undo(), True)
                        self.assertEqual(told_of(yard), told_of(other))
                    self.assertIs(yard.undo(), False)

    def test_whole_is_the_default(self):
        yard = built()
        self.assertRaises(NoHall, yard.do, [("beat", "a", 1), ("raze", "z")])
        self.assertEqual(yard, built())

    def test_bad_deeds_go_first_and_leave_no_marks(self):
        wrong = [["beat", "a", 1], (), ("beat",), ("beat", "a"), ("beat", "a", 1, 1), ("undo",), ("undo", "a"), ("raze",),
                 ("raze", "a", "b"), ("build", "b", HALL), ("build", "b", HALL, PAST, PAST), ("hold", "a", 0),
                 ("hold", "a", 0, 0, 0), ("loose", "a"), ("loose", "a", 0, 0), ("tie", "a", 0, 1), ("tie", "a", 0, 1, 2, 3),
                 ("step", "a", 0), ("step", "a", 0, 1, 2), ("twin",), ("names",), ("do", []), ("past", "a"), ("", "a", 1),
                 ("Beat", "a", 1), (None, "a", 1), (("beat",), "a", 1), (["beat"], "a", 1), (0, "a", 1), (True, "a", 1),
                 "beat", None, 7, ("marks",), ("is_open",), ("round", "a"), ("beat ", "a", 1), ({}, "a", 1)]
        right = [("beat", "a", 1), ("raze", "z"), ("raze", "a")]
        for deed in wrong:
            for at in range(4):
                for whole in (True, False):
                    for kind in (list, tuple):
                        yard = built()
                        with self.assertRaises(BadDeed) as caught:
                            yard.do(kind(right[:at] + [deed] + right[at:] + [None]), whole=whole)
                        self.assertEqual(caught.exception.at, at)
                        self.assertEqual((yard, yard.marks(), yard.is_open()), (built(), [], True))

    def test_open_but_while_at_work(self):
        yard, seen = Yard(), []

        class Spy(Hall):
            def memory(self):
                seen.append((yard.is_open(), yard.marks()))
                return Hall.memory(self)

        spy = Spy([[0]], [[1]])
        yard.do([("build", "a", spy, [(0,)]), ("beat", "a", 1)])
        self.assertTrue(seen)
        self.assertTrue(all(not told for told, _ in seen))
        self.assertEqual(seen[0][1], [("in", 2)])
        self.assertEqual(seen[-1][1], [("in", 2), "build"])
        self.assertIs(yard.is_open(), True)

    def test_what_fails_otherwise_leaves_it_open_too(self):
        yard = built()
        self.assertRaises(Exception, yard.do, [("beat", "a", 1), ("beat", "a", "many")])
        self.assertIs(yard.is_open(), True)
        self.assertEqual(yard, built())
        self.assertEqual(yard.marks(), [("in", 2), "beat", ("out", 1)])

    def test_undo_leaves_marks(self):
        yard = Yard()
        yard.do([("build", "a", HALL, PAST)])
        yard.undo()
        self.assertEqual(yard.marks(), [("in", 1), "build", ("out", 1)])


class HandedIn(unittest.TestCase):
    def test_no_change_behind_is_seen(self):
        past, steps = [(1, 2)], [1, 5]
        yard = Yard()
        yard.build("a", HALL, past)
        past[0] = (0, 0)
        self.assertEqual(yard.past("a"), [(1, 2)])
        yard.step("a", 0, steps)
        steps[0] = -9
        self.assertEqual(yard.hall("a").steps()[0], (1, 5))
        deeds = [("beat", "a", 1), ("step", "a", 0, steps)]
        yard.do(deeds)
        steps.append(99)
        deeds.clear()
        self.assertEqual(yard.hall("a").steps()[0], (-9, 5))
        self.assertEqual(yard.marks(), [("in", 2), "beat", "step", ("out", 2)])

    def test_told_lists_are_the_askers_own(self):
        yard = built()
        yard.hold("a", 0, 1)
        yard.do([("beat", "a", 1)])
        for ask in (lambda: yard.past("a"), lambda: yard.held("a"), yard.names, yard.marks):
            first, second = ask(), ask()
            self.assertIs(type(first), list)
            first.append("x")
            self.assertEqual(ask(), second)

    def test_asking_changes_nothing(self):
        yard = built()
        twin = yard.twin()
        told_of(yard), yard.round("a"), yard.bound("a"), yard.word("a"), len(yard), yard.marks(), yard.is_open()
        self.assertEqual((yard, yard.marks()), (twin, []))
        self.assertIs(yard.undo(), True)
        self.assertIs(yard.undo(), False)

    def test_histories_go_on(self):
        draw = Random(215)
        for _ in range(30):
            hall = draw_hall(draw)
            past, yard = draw_past(draw, hall), Yard()
            yard.build("a", hall, past)
            yard.beat("a", 4)
            yard.beat("a", 9)
            self.assertEqual(yard.past("a"), history(hall, past, 13)[13:])

    def test_methods_stand_in_the_class_itself(self):
        for name in ("build raze beat hold loose tie step undo names hall past held beats round bound word twin do marks "
                     "is_open __len__ __eq__").split():
            self.assertIn(name, vars(Yard))


if __name__ == "__main__":
    unittest.main()
