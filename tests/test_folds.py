import unittest
from copy import deepcopy
from itertools import product
from random import Random

from swayhalls.beats import history
from swayhalls.calm import calm_worth, is_calm, restless, turned_to
from swayhalls.errors import NotEven, TooMany
from swayhalls.folds import fold, folded, rounds_of, unfold
from swayhalls.halls import Hall, is_standing
from swayhalls.kinds import mirror, word_of
from swayhalls.worth import worth_of
from tests.draws import draw_even, draw_hall, draw_mirrored, draw_past, draw_standing
from tests.plain import history_of, next_of, standings_of, worth_by_words

PAIR = Hall([[0, 2], [3, 0]], [[2], [1, 4]])
MIRRORED = Hall([[0, 1], [-1, 0]], [[1], [0]])


def drawn(seed, many):
    """Even and mirrored halls by turns, strings straight and turned by turns."""
    draw = Random(seed)
    for at in range(many):
        yield draw, (draw_even if at % 2 else draw_mirrored)(draw, turned=at % 4 < 2)


def draw_window(draw, hall):
    return [draw_standing(draw, hall)] + draw_past(draw, hall)


def weight_ahead(hall, beats):
    return hall.memory()[beats - 1]


def string_by_words(hall, a, i, b, j):
    """How much copy b of j pulls at copy a of i."""
    k, much = len(hall.memory()), hall.strings()[i][j]
    if a == b:
        return 0
    if a > b:
        return much * weight_ahead(hall, a - b)
    return (-1 if word_of(hall) == "mirrored" else 1) * much * weight_ahead(hall, a - b + k + 1)


def steps_by_words(hall, a, i):
    lack, k = 0, len(hall.memory())
    if word_of(hall) == "mirrored":
        for b in range(a + 1, k + 1):
            for j, top in enumerate(hall.tops()):
                lack += hall.strings()[i][j] * weight_ahead(hall, a - b + k + 1) * top
    return tuple(step - lack for step in hall.steps()[i])


def fold_by_words(hall, window, beat):
    k, n = len(hall.memory()), len(hall)
    postures = [None] * ((k + 1) * n)
    for ahead, standing in enumerate(reversed(window)):
        b = beat - ahead
        if word_of(hall) == "mirrored" and b // (k + 1) % 2 == 1:
            standing = mirror(hall, standing)
        for i in range(n):
            postures[b % (k + 1) * n + i] = standing[i]
    return tuple(postures)


def comes_again(hall, window):
    """Whether the window's standings, or their mirrors by turns, come again and again."""
    k = len(hall.memory())
    rows = list(window)
    for _ in range(k + 1):
        rows.append(next_of(hall, rows[-k:]))
    ahead = window if word_of(hall) == "even" else [mirror(hall, standing) for standing in window]
    # and what comes behind the window's own past is the window's last one
    return rows[k + 1:] == list(ahead) and next_of(hall, window[:k]) == window[k]


class Folded(unittest.TestCase):
    def test_by_hand(self):
        self.assertEqual(folded(PAIR), Hall([[0, 0, 0, 2], [0, 0, 3, 0], [0, 2, 0, 0], [3, 0, 0, 0]],
                                            [[2], [1, 4], [2], [1, 4]]))
        # copy 0's steps are less by 1 and by -1, its strings turned
        self.assertEqual(folded(MIRRORED), Hall([[0, 0, 0, -1], [0, 0, 1, 0], [0, 1, 0, 0], [-1, 0, 0, 0]],
                                                [[0], [1], [1], [0]]))
        # two beats: weights of 2 ahead of 0 at 1, and so on
        self.assertEqual(folded(hall=Hall([[1]], [[3]], [5, 5])).strings(), ((0, 5, 5), (5, 0, 5), (5, 5, 0)))
        self.assertEqual(folded(Hall([[1]], [[3]], [5, 2, 5])).strings(),
                         ((0, 5, 2, 5), (5, 0, 5, 2), (2, 5, 0, 5), (5, 2, 5, 0)))

    def test_string_by_string_and_step_by_step(self):
        kinds = set()
        for _, hall in drawn(130, 160):
            k, n, told = len(hall.memory()), len(hall), folded(hall)
            self.assertIsInstance(told, Hall)
            self.assertEqual((len(told), told.memory()), ((k + 1) * n, (1,)))
            for a, i in product(range(k + 1), range(n)):
                self.assertEqual(told.steps()[a * n + i], steps_by_words(hall, a, i))
                for b, j in product(range(k + 1), range(n)):
                    self.assertEqual(told.strings()[a * n + i][b * n + j], string_by_words(hall, a, i, b, j))
            kinds.add((word_of(hall), k))
        self.assertGreaterEqual(kinds, {("even", k) for k in range(1, 6)} | {("mirrored", k) for k in range(1, 6)})

    def test_it_is_calm(self):
        for _, hall in drawn(131, 120):
            self.assertIs(is_calm(folded(hall)), True)

    def test_folded_again(self):
        for _, hall in drawn(132, 12):
            twice = folded(folded(hall))
            self.assertEqual(len(twice), 2 * (len(hall.memory()) + 1) * len(hall))
            self.assertIs(is_calm(twice), True)

    def test_the_greatest(self):
        draw = Random(133)
        hall = draw_even(draw, 12, True)
        hall = Hall(hall.strings(), hall.steps(), (1, 2, 0, -2, -1))
        self.assertEqual(word_of(hall), "even")
        self.assertEqual(len(folded(hall)), 72)
        self.assertIs(is_calm(folded(hall)), True)


class Windows(unittest.TestCase):
    def test_by_hand(self):
        window = [(1, 0), (0, 2)]
        self.assertEqual(fold(PAIR, window, 1), (1, 0, 0, 2))
        self.assertEqual(fold(PAIR, window, 2), (0, 2, 1, 0))
        self.assertEqual(unfold(PAIR, (0, 2, 1, 0), 2), window)
        self.assertEqual(unfold(PAIR, (0, 2, 1, 0), 3), window[::-1])
        # beats 2 and 3 are mirrored, beats 4 and 5 aren't
        window = [(1, 0), (0, 0)]
        self.assertEqual([fold(MIRRORED, window, beat) for beat in range(1, 6)],
                         [(1, 0, 0, 0), (1, 1, 1, 0), (0, 1, 1, 1), (0, 0, 0, 1), (1, 0, 0, 0)])

    def test_against_words_there_and_back(self):
        for draw, hall in drawn(134, 160):
            k, window = len(hall.memory()), draw_window(draw, hall)
            for beat in list(range(k, 3 * k + 5)) + [draw.randint(k, 2000), 2000]:
                told = fold(hall, window, beat)
                self.assertEqual(told, fold_by_words(hall, window, beat))
                self.assertEqual(fold(hall, tuple(window), beat), told)
                self.assertEqual(fold(beat=beat, window=window, hall=hall), told)
                self.assertIs(is_standing(folded(hall), told), True)
                back = unfold(hall, told, beat)
                self.assertEqual(back, window)
                self.assertEqual(unfold(beat=beat, standing=told, hall=hall), window)
                self.assertEqual([type(back)] + [type(one) for one in back], [list] + [tuple] * (k + 1))
                standing = draw_standing(draw, folded(hall))
                self.assertEqual(fold(hall, unfold(hall, standing, beat), beat), standing)

    def test_turns_of_the_next_copy_are_the_next_beat(self):
        moved = 0
        for draw, hall in drawn(135, 120):
            k, n, wide = len(hall.memory()), len(hall), folded(hall)
            window, beat = draw_window(draw, hall), draw.randint(k, 40)
            for beat in range(beat, beat + 6):
                later = window[1:] + [next_of(hall, window[1:])]
                persons = [(beat + 1) % (k + 1) * n + i for i in range(n)]
                draw.shuffle(persons)
                standing = ahead = fold(hall, window, beat)
                for person in persons:
                    standing = turned_to(wide, standing, person)
                self.assertEqual(standing, fold(hall, later, beat + 1))
                moved += standing != ahead
                window = later
        self.assertGreater(moved, 100)

    def test_its_worth_is_twice_the_windows(self):
        for draw, hall in drawn(136, 120):
            window, wide = draw_window(draw, hall), folded(hall)
            for beat in (len(hall.memory()), draw.randint(len(hall.memory()), 60)):
                told = calm_worth(wide, fold(hall, window, beat))
                self.assertEqual(told, 2 * worth_by_words(hall, window))
                self.assertEqual(told, 2 * worth_of(hall, window))

    def test_at_rest_just_where_it_comes_again(self):
        rested = 0
        for draw, hall in drawn(137, 120):
            k, wide = len(hall.memory()), folded(hall)
            rows = history_of(hall, draw_past(draw, hall), 60)
            for beat in (k, k + 1, k + 5, 40, 59):
                for window in (rows[beat - k:beat + 1], draw_window(draw, hall)):
                    told = restless(wide, fold(hall, window, beat)) == []
                    self.assertIs(told, comes_again(hall, window))
                    rested += told
        self.assertGreater(rested, 100)


class Rounds(unittest.TestCase):
    def test_by_hand(self):
        # person 0 stands where person 1 stood at 1 at least, person 1 at 1 where person 0 stood at 1
        self.assertEqual(rounds_of(PAIR), [[(0, 0), (0, 0)], [(0, 1), (1, 0)], [(1, 0), (0, 1)], [(1, 1), (1, 1)]])
        self.assertEqual(rounds_of(MIRRORED), [[(0, 0), (0, 1)], [(0, 1), (1, 1)], [(1, 0), (0, 0)], [(1, 1), (1, 0)]])
        self.assertEqual(rounds_of(hall=Hall([[0]], [[1]])), [[(0,), (0,)]])

    def test_against_all_windows(self):
        looked = {"even": 0, "mirrored": 0}
        for draw, hall in drawn(138, 800):
            k = len(hall.memory())
            if len(standings_of(hall)) ** (k + 1) > 1024:
                continue
            looked[word_of(hall)] += 1
            windows = [list(window) for window in product(standings_of(hall), repeat=k + 1)]
            told = rounds_of(hall)
            self.assertEqual(told, [window for window in windows if comes_again(hall, window)])
            self.assertEqual(told, sorted(told))
            for window in told:
                self.assertEqual(history(hall, window[:k], 1), window)
                again = history(hall, window[:k], k + 2)[k + 1:]
                self.assertEqual(again, [one if word_of(hall) == "even" else mirror(hall, one) for one in window])
        self.assertGreater(min(looked.values()), 30)

    def test_each_past_comes_to_one_of_them(self):
        for draw, hall in drawn(139, 600):
            k = len(hall.memory())
            if len(standings_of(hall)) ** (k + 1) <= 1024:
                self.assertIn(history(hall, draw_past(draw, hall), 2000)[-k - 1:], rounds_of(hall))

    def test_just_1024_standings(self):
        # 32 standings in two copies, or 4 standings in five
        for strings, steps, memory in ((chain(5), [[1]] * 5, (1,)), (chain(2), [[1], [0]], (1, 1, 1, 1)),
                                       (chain(1), [[1, 2, 3]], (1, 0, 0, 1)), (chain(3), [[1, 2, 3], [1], [0, 1, 2]], (2,))):
            hall = Hall(strings, steps, memory)
            k = len(memory)
            windows = [list(window) for window in product(standings_of(hall), repeat=k + 1)]
            self.assertEqual(len(windows), 1024)
            self.assertEqual(rounds_of(hall), [window for window in windows if comes_again(hall, window)])

    def test_more(self):
        for strings, steps, memory, many in ((chain(6), [[1]] * 6, (1,), 4096), (chain(2), [[1]] * 2, (1,) * 5, 4096),
                                             (chain(12), [[1, 2, 3, 4]] * 12, (1,) * 5, 5 ** 72),
                                             (chain(3), [[1, 2], [1, 2, 3], [0, 4]], (1,), 36 ** 2),
                                             ([[0, 1], [-1, 0]], [[1], [1]], (1, 0, 0, 0, -1), 4096)):
            with self.assertRaises(TooMany) as caught:
                rounds_of(Hall(strings, steps, memory))
            self.assertEqual(caught.exception.many, many)

    def test_told_lists_are_the_askers_own(self):
        told = rounds_of(PAIR)
        told[0].clear()
        told.pop()
        self.assertEqual(len(rounds_of(PAIR)), 4)
        self.assertEqual(rounds_of(PAIR)[0], [(0, 0), (0, 0)])
        window = [(1, 0), (0, 2)]
        back = unfold(PAIR, fold(PAIR, window, 5), 5)
        back.clear()
        self.assertEqual(unfold(PAIR, fold(PAIR, window, 5), 5), window)


def chain(persons):
    """Each pulls at the next by 1, and is pulled so."""
    return [[int(abs(i - j) == 1 or persons == 1) for j in range(persons)] for i in range(persons)]


class Refusals(unittest.TestCase):
    def test_halls_that_are_neither(self):
        draw, refused = Random(140), 0
        halls = [Hall([[0, 1], [0, 0]], [[1], [1]]), Hall([[0, 1], [1, 0]], [[1], [1]], [1, 2]),
                 Hall([[0, 1], [-1, 0]], [[1], [1]])]
        for hall in halls + [draw_hall(draw, draw.randint(2, 5)) for _ in range(60)]:
            if word_of(hall) == "":
                window, k = draw_window(draw, hall), len(hall.memory())
                self.assertRaises(NotEven, folded, hall)
                self.assertRaises(NotEven, fold, hall, window, k)
                self.assertRaises(NotEven, unfold, hall, sum(window, ()), k)
                self.assertRaises(NotEven, rounds_of, hall)
                refused += 1
        self.assertGreater(refused, 50)

    def test_ahead_of_too_many(self):
        hall = Hall([[0] * 11 + [1]] + [[0] * 12] * 11, [[1, 2, 3, 4]] * 12, (1,) * 5)
        self.assertRaises(NotEven, rounds_of, hall)

    def test_nothing_is_changed(self):
        for draw, hall in drawn(141, 30):
            window = draw_window(draw, hall)
            before = deepcopy(window)
            fold(hall, window, 30)
            self.assertEqual(window, before)


if __name__ == "__main__":
    unittest.main()
