import unittest
from collections import Counter
from random import Random

from swayhalls.errors import TooMany
from swayhalls.halls import Hall, is_past
from swayhalls.rounds import round_at, round_of
from swayhalls.survey import longest_wait, round_lengths
from tests.draws import draw_hall
from tests.plain import next_of, pasts_of, turned_round


def walk(hall, past):
    """Where that past's history goes round, and the round, told from its least beat on."""
    seen, rows, at = {}, [], list(past)
    while tuple(at) not in seen:
        seen[tuple(at)] = len(rows)
        rows.append(at[0])
        at = at[1:] + [next_of(hall, at)]
    begin = seen[tuple(at)]
    return begin, turned_round(rows[begin:])


def surveyed(hall):
    """What both functions are to tell, by going through all pasts."""
    walks = [(walk(hall, past), past) for past in pasts_of(hall)]
    many = Counter(len(cycle) for cycle in {cycle for (_, cycle), _ in walks})
    longest = max(begin for (begin, _), _ in walks)
    first = next(past for (begin, _), past in walks if begin == longest)
    return sorted(many.items()), (longest, first)


def still(tops, memory=(1,)):
    """A hall in which nobody is pulled: it comes to noughts."""
    return Hall([[0] * len(tops)] * len(tops), [list(range(1, top + 1)) for top in tops], memory)


class ByHand(unittest.TestCase):
    def test_one_person(self):
        stays = Hall([[1]], [[1]])
        self.assertEqual((round_lengths(stays), longest_wait(stays)), ([(1, 2)], (0, [(0,)])))
        turns = Hall([[-1]], [[0]])
        self.assertEqual((round_lengths(turns), longest_wait(turns)), ([(2, 1)], (0, [(0,)])))
        falls = Hall([[0]], [[1]])
        self.assertEqual((round_lengths(falls), longest_wait(falls)), ([(1, 1)], (1, [(1,)])))
        rises = Hall([[0]], [[0]])
        self.assertEqual((round_lengths(rises), longest_wait(rises)), ([(1, 1)], (1, [(0,)])))

    def test_rings(self):
        three = Hall([[0, 0, 1], [1, 0, 0], [0, 1, 0]], [[1]] * 3)
        self.assertEqual((round_lengths(three), longest_wait(three)), ([(1, 2), (3, 2)], (0, [(0, 0, 0)])))
        four = Hall([[0, 0, 0, 1], [1, 0, 0, 0], [0, 1, 0, 0], [0, 0, 1, 0]], [[1]] * 4)
        self.assertEqual(round_lengths(four), [(1, 2), (2, 1), (4, 3)])

    def test_several_beats(self):
        # as it did two beats ago: both the same, or by turns
        hall = Hall([[1]], [[1]], [0, 1])
        self.assertEqual((round_lengths(hall), longest_wait(hall)), ([(1, 2), (2, 1)], (0, [(0,), (0,)])))
        # five beats ago: bracelets of five
        hall = Hall([[1]], [[1]], [0, 0, 0, 0, 1])
        self.assertEqual((round_lengths(hall), longest_wait(hall)), ([(1, 2), (5, 6)], (0, [(0,)] * 5)))

    def test_first_past_that_waits_longest(self):
        hall = still((1,), (1, 1))
        # (1) (1) and (0) (1) both wait two beats
        self.assertEqual(longest_wait(hall), (2, [(0,), (1,)]))
        hall = still((2, 1))
        self.assertEqual(longest_wait(hall), (1, [(0, 1)]))


class AgainstAllPasts(unittest.TestCase):
    def check(self, hall):
        lengths, wait = surveyed(hall)
        self.assertEqual(round_lengths(hall), lengths)
        self.assertEqual(round_lengths(hall=hall), lengths)
        self.assertEqual(longest_wait(hall), wait)
        self.assertEqual(longest_wait(hall=hall), wait)
        self.assertTrue(is_past(hall, longest_wait(hall)[1]))

    def test_drawn_halls(self):
        draw, done = Random(40), 0
        while done < 120:
            hall = draw_hall(draw)
            if len(pasts_of_at_most(hall, 130)) > 0:
                self.check(hall)
                done += 1

    def test_of_just_4096_pasts(self):
        draw = Random(41)
        for hall in (still((1,) * 12), still((3,) * 6), still((1,) * 6, (1, 1)), still((1,) * 4, (1, 0, 1)),
                     still((3, 3), (0, 0, 1))):
            self.assertEqual(many_of(hall), 4096)
            strings = [[draw.randint(-3, 3) for _ in range(len(hall))] for _ in range(len(hall))]
            self.check(Hall(strings, hall.steps(), hall.memory()))

    def test_as_rounds_tells_it(self):
        draw, done = Random(42), 0
        while done < 30:
            hall = draw_hall(draw)
            pasts = pasts_of_at_most(hall, 100)
            if pasts:
                done += 1
                found = [round_of(hall, past) for past in pasts]
                waits = [begin for begin, _ in found]
                self.assertEqual(longest_wait(hall), (max(waits), pasts[waits.index(max(waits))]))
                cycles = {turned_round(round_at(hall, past)) for past in pasts}
                self.assertEqual(round_lengths(hall), sorted(Counter(map(len, cycles)).items()))


def many_of(hall):
    many = 1
    for top in hall.tops():
        many *= top + 1
    return many ** len(hall.memory())


def pasts_of_at_most(hall, many):
    return pasts_of(hall) if many_of(hall) <= many else []


class Refusals(unittest.TestCase):
    def test_more_than_4096(self):
        for tops, memory, many in (((1,) * 11 + (2,), (1,), 2048 * 3), ((1,) * 13, (1,), 8192),
                                   ((4, 4), (1,) * 5, 25 ** 5),
                                   ((3,) * 4, (1, 1), 65536), ((1,) * 7, (1, 1), 16384), ((4,) * 12, (1,) * 5, 5 ** 60),
                                   ((4,) * 12, (1,), 5 ** 12), ((3, 3, 3, 3, 3, 4), (1,), 5120)):
            for ask in (round_lengths, longest_wait):
                with self.assertRaises(TooMany) as caught:
                    ask(still(tops, memory))
                self.assertEqual(caught.exception.many, many)

    def test_just_below_and_above(self):
        # 4,000 and 3,600 pasts, then 4,860
        for tops in ((4, 4, 4, 3, 3, 1), (4, 4, 2, 2, 3, 3)):
            self.assertEqual((round_lengths(still(tops)), longest_wait(still(tops))[0]), ([(1, 1)], 1))
        for ask in (round_lengths, longest_wait):
            with self.assertRaises(TooMany) as caught:
                ask(still((4, 2, 2, 2, 2, 2, 3)))
            self.assertEqual(caught.exception.many, 4860)

    def test_asked_again_it_tells_the_same(self):
        hall = Hall([[0, 1], [1, 0]], [[1], [1]])
        told = round_lengths(hall), longest_wait(hall)
        self.assertEqual(told, ([(1, 2), (2, 1)], (0, [(0, 0)])))
        round_lengths(hall).clear()
        longest_wait(hall)[1].clear()
        self.assertEqual((round_lengths(hall), longest_wait(hall)), told)

    def test_kinds_of_what_is_told(self):
        hall = Hall([[0, 1], [1, 0]], [[1], [1]])
        self.assertIs(type(round_lengths(hall)), list)
        self.assertEqual([type(pair) for pair in round_lengths(hall)], [tuple, tuple])
        self.assertIs(type(longest_wait(hall)), tuple)
        self.assertIs(type(longest_wait(hall)[1]), list)


if __name__ == "__main__":
    unittest.main()
