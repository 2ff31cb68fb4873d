"""What is promised over the whole program: ways of leading halls over, one behind the other."""

import unittest
from itertools import permutations
from math import gcd
from random import Random

from swayhalls.beats import history
from swayhalls.calm import calm_worth, is_calm, rest_by
from swayhalls.errors import NotEven
from swayhalls.folds import fold, folded, unfold
from swayhalls.halls import Hall
from swayhalls.kinds import mirror, word_of
from swayhalls.over import as_piece, beside, left_out, parting_past, stepped, tied, turned_over
from swayhalls.rounds import round_of
from swayhalls.scales import no_scales, pieces_of, scales_of
from swayhalls.sorts import are_sorts, lesser, sorts_of, told_small, told_wide
from swayhalls.worth import bound_of, gains, range_of, unlike_beats, worth_of, worths
from tests.draws import (
    STRAIGHT, TURNED, WEIGHTS, draw_even, draw_hall, draw_held, draw_mirrored, draw_past, draw_scales, draw_standing,
    draw_steps, draws, strings_by,
)
from tests.plain import down, history_of, scales_told, weight_sum, without


def drawn(seed, many):
    """Even and mirrored halls by turns, strings straight and turned by turns."""
    draw = Random(seed)
    for at in range(many):
        yield draw, (draw_even if at % 2 else draw_mirrored)(draw, turned=at % 4 < 2)


def draw_window(draw, hall):
    return [draw_standing(draw, hall)] + draw_past(draw, hall)


def in_order(hall, order):
    """The hall of these persons in this order, each as often as it's there."""
    strings, steps = hall.strings(), hall.steps()
    return Hall([[strings[i][j] for j in order] for i in order], [steps[i] for i in order], hall.memory())


def blown_up(draw, hall):
    """A hall of one to three persons for each of that one's, joined as those are, sorts that it has, and of whom."""
    numbers = [person for person in range(len(hall)) for _ in range(draw.randint(1, 3))]
    draw.shuffle(numbers)
    lists = {}
    for at, person in enumerate(numbers):
        lists.setdefault(person, []).append(at)
    return in_order(hall, numbers), list(lists.values()), list(lists)


def twice(hall):
    """The hall beside itself, and the sorts that are told of that."""
    return beside(hall, hall), [[person, person + len(hall)] for person in range(len(hall))]


def with_sorts(seed, many):
    """Even and mirrored halls by turns, with sorts that they have."""
    for at, (draw, hall) in enumerate(drawn(seed, many)):
        yield draw, *(blown_up(draw, hall)[:2] if word_of(hall) == "even" and at % 3 else twice(hall))


def draw_pair(draw, word):
    """Two halls of that word and of one memory, strings of both straight or of both turned."""
    make = draw_even if word == "even" else draw_mirrored
    one = make(draw)
    while True:
        other = make(draw)
        if other.memory() == one.memory():
            return one, other


def all_turned(hall, persons):
    for person in persons:
        hall = turned_over(hall, person)
    return hall


def all_left_out(hall, persons, posture):
    """The last ones first, so that those ahead keep their numbers."""
    for person in sorted(persons, reverse=True):
        hall = left_out(hall, person, posture)
    return hall


def copies_of(hall, persons):
    """The persons of the folded hall who are copies of these."""
    return [copy * len(hall) + person for copy in range(len(hall.memory()) + 1) for person in persons]


def folded_sorts(hall, sorts):
    """The same lists once for each copy."""
    return [[copy * len(hall) + person for person in persons]
            for copy in range(len(hall.memory()) + 1) for persons in sorts]


def lists_without(sorts, at):
    """Those lists but one, persons counted as where its persons are left out."""
    gone = sorts[at]
    return [[person - sum(one < person for one in gone) for person in persons]
            for place, persons in enumerate(sorts) if place != at]


class InAnyOrder(unittest.TestCase):
    def test_turned_over_and_left_out(self):
        draw = Random(230)
        for hall, _, _ in draws(231, 150):
            if len(hall) > 1:
                one, other = draw.sample(range(len(hall)), 2)
                posture = draw.randint(0, hall.tops()[other])
                self.assertEqual(left_out(turned_over(hall, one), other, posture),
                                 turned_over(left_out(hall, other, posture), one - (one > other)))
                # counted from the top down it's held at what is left
                self.assertEqual(left_out(turned_over(hall, other), other, hall.tops()[other] - posture),
                                 left_out(hall, other, posture))

    def test_left_out_one_behind_the_other(self):
        draw = Random(232)
        for _ in range(80):
            hall = draw_hall(draw, draw.randint(3, 5))
            gone = {person: draw.randint(0, hall.tops()[person]) for person in draw.sample(range(len(hall)), 2)}
            told = []
            for order in permutations(gone):
                other = hall
                for at, person in enumerate(order):
                    other = left_out(other, person - sum(one < person for one in order[:at]), gone[person])
                told.append(other)
            self.assertEqual(told[0], told[1])

    def test_beside_one_another(self):
        draw = Random(233)
        for _ in range(80):
            memory = draw.choice(WEIGHTS)
            one, other, third = (draw_hall(draw, draw.randint(2, 3), memory) for _ in range(3))
            both, person, behind = beside(one, other), draw.randrange(len(one)), draw.randrange(len(other))
            self.assertEqual(beside(both, third), beside(one, beside(other, third)))
            self.assertEqual(turned_over(both, person), beside(turned_over(one, person), other))
            self.assertEqual(turned_over(both, len(one) + behind), beside(one, turned_over(other, behind)))
            self.assertEqual(left_out(both, person, 1), beside(left_out(one, person, 1), other))
            self.assertEqual(left_out(both, len(one) + behind, 1), beside(one, left_out(other, behind, 1)))
            self.assertEqual(tied(both, person, 0, 7, back=-2), beside(tied(one, person, 0, 7, back=-2), other))
            steps = draw_steps(draw, draw.randint(1, 4), 9)
            self.assertEqual(stepped(both, person, steps), beside(stepped(one, person, steps), other))
            self.assertEqual(as_piece(both, list(range(len(one)))), one)
            self.assertEqual(as_piece(both, [len(one) + person for person in range(len(other))]), other)

    def test_told_small(self):
        for draw, hall, sorts in with_sorts(234, 80):
            self.assertTrue(are_sorts(hall, sorts))
            small = lesser(hall, sorts)
            for at, persons in enumerate(sorts):
                self.assertEqual(lesser(all_turned(hall, draw.sample(persons, len(persons))), sorts),
                                 turned_over(small, at))
                if len(sorts) > 1:
                    posture = draw.randint(0, small.tops()[at])
                    self.assertEqual(lesser(all_left_out(hall, persons, posture), sorted(lists_without(sorts, at))),
                                     left_out(small, at, posture))
            shifted = [[person + len(hall) for person in persons] for persons in sorts]
            self.assertEqual(lesser(beside(hall, hall), sorts + shifted), beside(small, small))

    def test_told_small_twice(self):
        for _, hall, sorts in with_sorts(235, 60):
            small = lesser(hall, sorts)
            fewest = sorts_of(small)
            joined = sorted(sorted(person for at in lists for person in sorts[at]) for lists in fewest)
            self.assertEqual(joined, sorts_of(hall))
            self.assertEqual(lesser(small, fewest), lesser(hall, joined))

    def test_folded_and_turned_over(self):
        words = set()
        for draw, hall in drawn(236, 100):
            person = draw.randrange(len(hall))
            other = turned_over(hall, person)
            self.assertEqual(folded(other), all_turned(folded(hall), copies_of(hall, [person])))
            window, beat = draw_window(draw, hall), draw.randint(5, 40)
            standing = fold(hall, window, beat)
            for copy in copies_of(hall, [person]):
                standing = down(folded(hall), copy, standing)
            self.assertEqual(fold(other, [down(hall, person, one) for one in window], beat), standing)
            self.assertEqual(unfold(other, standing, beat), [down(hall, person, one) for one in window])
            words.add(word_of(hall))
        self.assertEqual(words, {"even", "mirrored"})

    def test_folded_and_left_out(self):
        draw = Random(237)
        for _ in range(60):
            hall = draw_even(draw, draw.randint(2, 4))
            person = draw.randrange(len(hall))
            posture = draw.randint(0, hall.tops()[person])
            self.assertEqual(folded(left_out(hall, person, posture)),
                             all_left_out(folded(hall), copies_of(hall, [person]), posture))

    def test_folded_and_beside_one_another(self):
        draw = Random(238)
        for at in range(40):
            one, other = draw_pair(draw, "even" if at % 2 else "mirrored")
            wide = folded(beside(one, other))
            both = beside(one, other)
            self.assertEqual(as_piece(wide, copies_of(both, range(len(one)))), folded(one))
            self.assertEqual(as_piece(wide, copies_of(both, range(len(one), len(both)))), folded(other))

    def test_folded_and_told_small(self):
        words = set()
        for draw, hall, sorts in with_sorts(239, 60):
            small = lesser(hall, sorts)
            lists = folded_sorts(hall, sorts)
            self.assertTrue(are_sorts(folded(hall), lists))
            self.assertEqual(lesser(folded(hall), lists), folded(small))
            window, beat = draw_window(draw, small), draw.randint(5, 40)
            wide = [told_wide(standing, sorts) for standing in window]
            self.assertEqual(told_small(fold(hall, wide, beat), lists), fold(small, window, beat))
            self.assertEqual(told_wide(fold(small, window, beat), lists), fold(hall, wide, beat))
            words.add(word_of(hall))
        self.assertEqual(words, {"even", "mirrored"})

    def test_nothing_parts_what_comes_to_the_same(self):
        draw = Random(240)
        for _ in range(30):
            hall = draw_hall(draw, 3, draw.choice(((1,), (2,), (-1,))))
            one, other = draw.sample(range(3), 2)
            told = turned_over(left_out(hall, other, 1), one - (one > other))
            self.assertIsNone(parting_past(left_out(turned_over(hall, one), other, 1), told))


def shared_out(draw, hall, wide, sorts, order):
    """Strings of the wide hall by which each list together pulls as the one person does."""
    strings = [list(row) for row in wide.strings()]
    for person in range(len(wide)):
        for one, persons in zip(order, sorts):
            much = hall.strings()[next(of for of, told in zip(order, sorts) if person in told)][one]
            for other in persons[1:]:
                strings[person][other] = draw.randint(-3, 3)
                much -= strings[person][other]
            strings[person][persons[0]] = much
    return strings


class Chains(unittest.TestCase):
    """Ways drawn one behind the other: what comes in the last hall is what comes in the first, led over likewise."""

    def lead(self, draw, hall, rows, held):
        """One way more: the next hall, how the rows are told there, who is held there."""
        way, person = draw.choice(("turn", "turn", "leave", "beside", "wide")), draw.randrange(len(hall))
        if way == "turn":
            top = hall.tops()[person]
            return (turned_over(hall, person), [down(hall, person, row) for row in rows],
                    {one: top - posture if one == person else posture for one, posture in held.items()})
        if way == "leave" and held and len(hall) > 1:
            person = draw.choice(sorted(held))
            return (left_out(hall, person, held[person]), [without(row, person) for row in rows],
                    {one - (one > person): posture for one, posture in held.items() if one != person})
        if way == "beside" and len(hall) < 10:
            other = draw_hall(draw, draw.randint(1, 2), hall.memory())
            more = history_of(other, draw_past(draw, other), len(rows) - len(hall.memory()))
            return beside(hall, other), [row + later for row, later in zip(rows, more)], held
        if way == "wide" and len(hall) < 5:
            wide, sorts, order = blown_up(draw, hall)
            # all who are of one sort stand alike only where their strings from it pull as much as the one's own did
            wide = Hall(shared_out(draw, hall, wide, sorts, order), wide.steps(), wide.memory())
            self.assertEqual(lesser(wide, sorts), in_order(hall, order))
            return (wide, [told_wide(tuple(row[one] for one in order), sorts) for row in rows],
                    {person: held[one] for one, persons in zip(order, sorts) for person in persons if one in held})
        return hall, rows, held

    def test_histories_go_alike(self):
        """Promised above all, [1] (e)."""
        draw, ways = Random(241), 0
        for _ in range(120):
            hall = draw_hall(draw, draw.randint(1, 4))
            held = dict(draw_held(draw, hall))
            rows = history_of(hall, draw_past(draw, hall), 25, held.items())
            first = hall
            for _ in range(6):
                hall, rows, held = self.lead(draw, hall, rows, held)
                k = len(hall.memory())
                self.assertEqual(history(hall, rows[:k], 25, held=list(held.items())), rows)
            ways += hall != first
        self.assertGreater(ways, 80)


class Words(unittest.TestCase):
    def test_even_stays_even(self):
        draw = Random(242)
        for at in range(80):
            hall = draw_even(draw, draw.randint(2, 4))
            person = draw.randrange(len(hall))
            wide, sorts, order = blown_up(draw, hall)
            piece = sorted(draw.sample(range(len(hall)), draw.randint(1, len(hall))))
            halls = [turned_over(hall, person), left_out(hall, person, draw.randint(0, hall.tops()[person])),
                     beside(*draw_pair(draw, "even")), as_piece(hall, piece), wide, in_order(hall, order),
                     lesser(wide, sorts), lesser(wide, sorts_of(wide)), folded(hall), folded(folded(hall)),
                     stepped(hall, person, draw_steps(draw, draw.randint(1, 4), 99))]
            for told in halls:
                self.assertEqual(word_of(told), "even")
            self.assertTrue(is_calm(folded(hall)))

    def test_mirrored_stays_mirrored(self):
        draw = Random(243)
        for _ in range(80):
            hall = draw_mirrored(draw)
            self.assertEqual(word_of(hall), "mirrored")
            for person in range(len(hall)):
                self.assertEqual(word_of(turned_over(hall, person)), "mirrored")
            wide, sorts = twice(hall)
            self.assertEqual((word_of(wide), word_of(beside(*draw_pair(draw, "mirrored")))), ("mirrored", "mirrored"))
            self.assertIn(word_of(lesser(wide, sorts_of(wide))), ("mirrored", "even"))
            self.assertEqual(word_of(lesser(wide, sorts)), "mirrored")
            self.assertEqual(word_of(folded(hall)), "even")
            # pieces of it that hang together are what they were, all persons being balanced by their own alone
            for piece in pieces_of(hall):
                self.assertIn(word_of(as_piece(hall, piece)), ("mirrored", "even"))

    def test_in_disguise(self):
        """Promised above all, [1] (c): by scales, or by persons who show that there are none, just one of both."""
        for draw, hall in drawn(244, 60):
            other = all_turned(hall, draw.sample(range(len(hall)), draw.randint(1, len(hall))))
            for turned in (False, True):
                self.assertEqual(scales_of(other, turned=turned), scales_of(hall, turned=turned))
                self.assertIs(no_scales(other, turned=turned) is None, scales_of(other, turned=turned) is not None)

    def test_lengths_of_rounds(self):
        """Promised above all, [1] (a)."""
        for draw, hall in drawn(245, 60):
            k = len(hall.memory())
            other = turned_over(beside(hall, hall), draw.randrange(len(hall)))
            begin, length = round_of(other, draw_past(draw, other), most=2000)
            self.assertEqual((2 if word_of(hall) == "mirrored" else 1) * (k + 1) % length, 0)
            self.assertLessEqual(begin, bound_of(other))


class Worths(unittest.TestCase):
    def test_turned_over(self):
        for draw, hall in drawn(246, 100):
            k, scales = len(hall.memory()), scales_told(hall)
            for person in range(len(hall)):
                other = turned_over(hall, person)
                # all that person's steps weigh now what they weighed, on the other side of 0
                less = (k + 1) * scales[person] * 2 * weight_sum(hall, person, hall.tops()[person])
                window, standing = draw_window(draw, hall), draw_standing(draw, hall)
                turned = [down(hall, person, one) for one in window]
                self.assertEqual(worth_of(other, turned), worth_of(hall, window) - less)
                self.assertEqual(gains(other, turned, down(hall, person, standing)), gains(hall, window, standing))
                self.assertEqual(range_of(other), tuple(much - less for much in range_of(hall)))
                self.assertEqual(bound_of(other), bound_of(hall))
                past = draw_past(draw, hall)
                self.assertEqual(unlike_beats(other, [down(hall, person, one) for one in past]),
                                 unlike_beats(hall, past))

    def test_beside_one_another(self):
        draw = Random(247)
        for at in range(60):
            one, other = draw_pair(draw, "even" if at % 2 else "mirrored")
            both = beside(one, other)
            windows, standings = [draw_window(draw, one), draw_window(draw, other)], [
                draw_standing(draw, one), draw_standing(draw, other)]
            window = [a + b for a, b in zip(*windows)]
            self.assertEqual(worth_of(both, window), worth_of(one, windows[0]) + worth_of(other, windows[1]))
            self.assertEqual(gains(both, window, standings[0] + standings[1]),
                             gains(one, windows[0], standings[0]) + gains(other, windows[1], standings[1]))
            self.assertEqual(range_of(both), tuple(a + b for a, b in zip(range_of(one), range_of(other))))
            self.assertEqual(bound_of(both), bound_of(one) + bound_of(other))
            pasts = windows[0][1:], windows[1][1:]
            told = worths(both, [a + b for a, b in zip(*pasts)], 9)
            self.assertEqual(told, [a + b for a, b in zip(worths(one, pasts[0], 9), worths(other, pasts[1], 9))])

    def test_left_out(self):
        """Who is held gains nothing; all others gain as in the hall without, times how their scales are there."""
        draw = Random(248)
        for _ in range(80):
            hall = draw_even(draw, draw.randint(2, 4))
            person = draw.randrange(len(hall))
            posture = draw.randint(0, hall.tops()[person])
            other = left_out(hall, person, posture)
            window = [without(one, person)[:person] + (posture,) + without(one, person)[person:]
                      for one in draw_window(draw, hall)]
            standing = tuple(posture if one == person else much
                             for one, much in enumerate(draw_standing(draw, hall)))
            many = gains(hall, window, standing)
            few = gains(other, [without(one, person) for one in window], without(standing, person))
            self.assertEqual(many[person], 0)
            scales, own = without(tuple(scales_told(hall)), person), scales_told(other)
            self.assertEqual([much * scale for much, scale in zip(without(many, person), own)],
                             [much * scale for much, scale in zip(few, scales)])
            past = window[1:]
            self.assertEqual([beat for beat, _ in unlike_beats(hall, past, held=[(person, posture)])],
                             [beat for beat, _ in unlike_beats(other, [without(one, person) for one in past])])
            told = worths(hall, past, 9, held=[(person, posture)])
            less = worths(other, [without(one, person) for one in past], 9)
            self.assertEqual([one > later for one, later in zip(told, told[1:])],
                             [one > later for one, later in zip(less, less[1:])])

    def test_told_small(self):
        whole = 0
        for draw, hall, sorts in with_sorts(249, 80):
            small = lesser(hall, sorts)
            window, standing = draw_window(draw, small), draw_standing(draw, small)
            wide = [told_wide(one, sorts) for one in window]
            many, few = gains(hall, wide, told_wide(standing, sorts)), gains(small, window, standing)
            scales, own = scales_told(hall), scales_told(small)
            for at, persons in enumerate(sorts):
                for person in persons:
                    self.assertEqual(many[person] * own[at], few[at] * scales[person])
            sums = [sum(scales[person] for person in persons) for persons in sorts]
            if len(pieces_of(small)) == 1:
                common = gcd(*sums)
                self.assertEqual([much // common for much in sums], own)
                self.assertEqual(worth_of(hall, wide), common * worth_of(small, window))
                whole += 1
            past = window[1:]
            self.assertEqual([beat for beat, _ in unlike_beats(small, past)],
                             [beat for beat, _ in unlike_beats(hall, wide[1:])])
        self.assertGreater(whole, 20)

    def test_folded(self):
        for draw, hall in drawn(250, 60):
            window, standing, k = draw_window(draw, hall), draw_standing(draw, hall), len(hall.memory())
            beat = draw.randint(k, 40)
            told = [calm_worth(folded(hall), fold(hall, one, at))
                    for one, at in ((window, beat), (window[1:] + [standing], beat + 1))]
            self.assertEqual(told[0] - told[1], 2 * sum(gains(hall, window, standing)))
            self.assertEqual(told[0], 2 * worth_of(hall, window))

    def test_bounds_and_ranges_hold_in_all_of_them(self):
        """Promised above all, [1] (b)."""
        for draw, hall, sorts in with_sorts(251, 60):
            for other in (hall, lesser(hall, sorts), turned_over(hall, 0), folded(lesser(hall, sorts)),
                          beside(hall, lesser(hall, sorts))):
                self.check_bound(draw, other)

    def check_bound(self, draw, hall):
        k, (low, high), bound = len(hall.memory()), range_of(hall), bound_of(hall)
        past = draw_past(draw, hall)
        falls = unlike_beats(hall, past)
        self.assertTrue(all(beat < bound + k + 1 for beat, _ in falls))
        self.assertTrue(all(low <= worth <= high for worth in worths(hall, past, 12)))
        self.assertTrue(all(fall >= 2 for _, fall in falls))
        self.assertLessEqual(sum(fall for _, fall in falls), high - low)
        rest = (falls[-1][0] if falls else k) + 1
        rows = history_of(hall, past, rest + 2 * k + 2)
        for beat in range(rest, rest + k + 1):
            ahead = rows[beat - k - 1]
            self.assertEqual(rows[beat], mirror(hall, ahead) if word_of(hall) == "mirrored" else ahead)

    def test_not_even_stays_refused(self):
        draw = Random(252)
        for _ in range(40):
            hall = draw_hall(draw, 3, (1, 2))
            alone = [[0], [1], [2]]
            for other in (turned_over(hall, 0), left_out(hall, 0, 1), beside(hall, hall), lesser(hall, alone)):
                self.assertEqual(word_of(other), "")
                for ask in (folded, bound_of, range_of):
                    self.assertRaises(NotEven, ask, other)


class Rests(unittest.TestCase):
    def test_turns_in_halls_led_over(self):
        """Promised above all, [1] (d)."""
        draw = Random(253)
        for _ in range(60):
            strings = strings_by(draw, draw_scales(draw, 4), False)
            for person, row in enumerate(strings):
                row[person] = abs(row[person])
            hall = Hall(strings, [draw_steps(draw, draw.randint(1, 4), 20) for _ in range(4)])
            standing, order = draw_standing(draw, hall), [draw.randrange(4) for _ in range(3)] + [3, 1, 0, 2]
            rest, turns = rest_by(hall, standing, order)
            other = turned_over(hall, 2)
            self.assertEqual(rest_by(other, down(hall, 2, standing), order), (down(hall, 2, rest), turns))
            both = beside(hall, other)
            told = rest_by(both, standing + down(hall, 2, standing), order + [person + 4 for person in order])
            self.assertEqual(told[0], rest + down(hall, 2, rest))
            self.assertEqual([person % 4 for person in told[1] if person < 4], turns)

    def test_memories_of_each_kind(self):
        for memory in STRAIGHT + TURNED:
            hall = Hall([[0, 2], [2 if memory in STRAIGHT else -2, 0]], [[1, 3], [0]], memory)
            self.assertEqual(word_of(hall), "even")
            self.assertEqual(len(folded(beside(hall, hall))), 4 * (len(memory) + 1))


if __name__ == "__main__":
    unittest.main()
