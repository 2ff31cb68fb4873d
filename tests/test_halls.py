import unittest
from copy import deepcopy

from swayhalls.errors import BadHall
from swayhalls.halls import Hall
from tests.samples import (
    MEMORIES, NEVER_RIGHT, NUMBER_ROWS, NUMBERS, all_forms, as_lists, parts, put, put_in, row_forms, steps_of,
    strings_of,
)

STRINGS = [[0, 3, -2], [1, 5, 0], [-99, 99, 4]]
STEPS = [[2], [-1, 0, 8], [-9999, 0, 1, 9999]]
MEMORY = [0, -4, 9]


class RightHalls(unittest.TestCase):
    def check_tells(self, hall, strings, steps, memory):
        # assertEqual tells lists and tuples apart at each depth
        self.assertEqual(hall.strings(), strings)
        self.assertEqual(hall.steps(), steps)
        self.assertEqual(hall.memory(), memory)
        self.assertEqual(hall.tops(), tuple(len(row) for row in steps))
        self.assertEqual(len(hall), len(strings))
        self.assertEqual(repr(hall), "Hall(" + str(len(strings)) + " persons, " + str(len(memory)) + " beats)")

    def test_by_places_in_each_mix_of_lists_and_tuples(self):
        for strings, steps, memory in parts():
            for mix in all_forms(strings, steps, memory):
                self.check_tells(Hall(*mix), strings, steps, memory)

    def test_by_names_in_each_mix_of_lists_and_tuples(self):
        for strings, steps, memory in parts():
            for one, two, three in all_forms(strings, steps, memory):
                self.check_tells(Hall(memory=three, strings=one, steps=two), strings, steps, memory)
                self.check_tells(Hall(one, memory=three, steps=two), strings, steps, memory)

    def test_memory_left_out_is_one_beat_of_1(self):
        for persons in (1, 4, 12):
            strings, steps = strings_of(persons), steps_of(persons)
            self.check_tells(Hall(strings, steps), strings, steps, (1,))
            self.check_tells(Hall(steps=as_lists(steps), strings=as_lists(strings)), strings, steps, (1,))
            self.assertEqual(Hall(strings, steps), Hall(strings, steps, [1]))

    def test_as_the_document_writes_it(self):
        self.assertEqual(repr(Hall([[0]], [[1]])), "Hall(1 persons, 1 beats)")
        self.assertEqual(repr(Hall(STRINGS, STEPS, MEMORY)), "Hall(3 persons, 3 beats)")
        self.assertEqual(Hall(STRINGS, STEPS, MEMORY).tops(), (1, 3, 4))
        self.assertEqual(len(Hall(strings_of(12), steps_of(12), (1, 2, 3, 4, 5))), 12)

    def test_one_to_four_steps_and_one_to_five_weights(self):
        for many in (1, 2, 3, 4):
            self.assertEqual(Hall([[0]], [range_list(many)]).tops(), (many,))
        for many in (1, 2, 3, 4, 5):
            self.assertEqual(Hall([[0]], [[0]], range_list(many)).memory(), tuple(range_list(many)))

    def test_what_is_not_looked_at_is_not_refused(self):
        great = 10 ** 5000
        self.check_tells(Hall([[great]], [[-great, great]], [great, -great]), ((great,),), ((-great, great),),
                         (great, -great))
        self.check_tells(Hall([[-100]], [[-10000, 10000]], [10]), ((-100,),), ((-10000, 10000),), (10,))
        for persons in (13, 30):
            strings, steps = strings_of(persons), steps_of(persons)
            self.check_tells(Hall(strings, steps), strings, steps, (1,))

    def test_weights_of_0_ahead_of_the_last_one(self):
        self.assertEqual(Hall([[0]], [[0]], [0, 0, 0, 0, 1]).memory(), (0, 0, 0, 0, 1))

    def test_asked_again_it_tells_the_same(self):
        hall = Hall(STRINGS, STEPS, MEMORY)
        for _ in range(3):
            self.check_tells(hall, ((0, 3, -2), (1, 5, 0), (-99, 99, 4)), ((2,), (-1, 0, 8), (-9999, 0, 1, 9999)),
                             (0, -4, 9))

    def test_persons_are_rows_not_columns(self):
        self.assertEqual(Hall([[1, 2], [3, 4]], [[5], [6]]).strings()[0], (1, 2))


def range_list(many):
    return list(range(1, many + 1))


class Likeness(unittest.TestCase):
    def check_unlike(self, one, other):
        self.assertFalse(one == other)
        self.assertFalse(other == one)
        self.assertTrue(one != other)

    def test_same_handed_in_otherwise(self):
        for strings, steps, memory in parts():
            plain = Hall(strings, steps, memory)
            for mix in all_forms(strings, steps, memory):
                hall = Hall(*mix)
                self.assertIs(hall == plain, True)
                self.assertIs(plain == hall, True)
                self.assertIs(hall != plain, False)

    def test_one_string_otherwise(self):
        hall = Hall(STRINGS, STEPS, MEMORY)
        for i in range(3):
            for j in range(3):
                new = put_in(STRINGS, i, j, STRINGS[i][j] + 1)
                self.check_unlike(hall, Hall(new, STEPS, MEMORY))

    def test_one_step_otherwise(self):
        steps = [[2], [-10, 0, 8], [-9999, 0, 10, 9999]]
        hall = Hall(STRINGS, steps, MEMORY)
        for i, row in enumerate(steps):
            for k in range(len(row)):
                self.check_unlike(hall, Hall(STRINGS, put_in(steps, i, k, row[k] - 1), MEMORY))

    def test_a_step_more_or_less(self):
        hall = Hall(STRINGS, STEPS, MEMORY)
        self.check_unlike(hall, Hall(STRINGS, put(STEPS, 0, [2, 3]), MEMORY))
        self.check_unlike(hall, Hall(STRINGS, put(STEPS, 2, [-9999, 0, 1]), MEMORY))

    def test_one_weight_otherwise(self):
        hall = Hall(STRINGS, STEPS, MEMORY)
        for at in range(3):
            self.check_unlike(hall, Hall(STRINGS, STEPS, put(MEMORY, at, MEMORY[at] + 1)))
        self.check_unlike(hall, Hall(STRINGS, STEPS, [0, *MEMORY]))
        self.check_unlike(hall, Hall(STRINGS, STEPS, MEMORY + [1]))
        self.check_unlike(hall, Hall(STRINGS, STEPS, MEMORY[:2]))
        self.check_unlike(hall, Hall(STRINGS, STEPS))

    def test_other_persons(self):
        self.check_unlike(Hall([[0]], [[1]]), Hall([[0, 0], [0, 0]], [[1], [1]]))
        self.check_unlike(Hall(STRINGS, STEPS), Hall(STRINGS[::-1], STEPS))
        self.check_unlike(Hall(STRINGS, STEPS), Hall(STRINGS, STEPS[::-1]))

    def test_nothing_of_another_class(self):
        hall = Hall([[0]], [[1]])
        others = [0, 1, True, False, None, "", repr(hall), "Hall", (), [], hall.strings(), hall.steps(),
                  hall.memory(), hall.tops(), [[0]], (hall.strings(), hall.steps(), hall.memory()),
                  [hall.strings(), hall.steps(), hall.memory()], [hall], (hall,), object(), Hall, BadHall("steps")]
        for other in others:
            self.assertIs(hall == other, False)
            self.assertIs(other == hall, False)
            self.assertIs(hall != other, True)


class HandedIn(unittest.TestCase):
    def test_nothing_handed_in_is_changed(self):
        for strings, steps, memory in parts():
            for mix in all_forms(strings, steps, memory):
                before = deepcopy(mix)
                hall = Hall(*mix)
                hall.strings(), hall.steps(), hall.memory(), hall.tops(), len(hall), repr(hall)
                self.assertEqual(mix, before)

    def test_nothing_refused_is_changed(self):
        for bad in (["x"], [[0, 1], [2]], [[3, 1]], [0]):
            for at in range(3):
                mix = put([as_lists(STRINGS), as_lists(STEPS), list(MEMORY)], at, bad)
                before = deepcopy(mix)
                self.assertRaises(BadHall, Hall, *mix)
                self.assertEqual(mix, before)

    def test_change_behind_is_not_seen(self):
        strings, steps, memory = as_lists(STRINGS), as_lists(STEPS), list(MEMORY)
        hall, same = Hall(strings, steps, memory), Hall(STRINGS, STEPS, MEMORY)
        changes = [
            lambda: strings[0].__setitem__(1, 77), lambda: strings[2].clear(), lambda: strings.append([1]),
            lambda: strings.clear(), lambda: steps[1].append(9), lambda: steps[0].__setitem__(0, -5),
            lambda: steps.pop(), lambda: steps.clear(), lambda: memory.__setitem__(0, 6), lambda: memory.append(0),
            lambda: memory.clear(),
        ]
        for change in changes:
            change()
            self.assertEqual(hall, same)
            self.assertEqual((hall.strings(), hall.steps(), hall.memory()),
                             (same.strings(), same.steps(), same.memory()))
            self.assertEqual((hall.tops(), len(hall), repr(hall)), (same.tops(), 3, repr(same)))

    def test_change_of_inner_lists_in_tuples_is_not_seen(self):
        strings, steps = tuple(as_lists(STRINGS)), tuple(as_lists(STEPS))
        hall = Hall(strings, steps, MEMORY)
        for row in strings + steps:
            row.clear()
        self.assertEqual(hall, Hall(STRINGS, STEPS, MEMORY))

    def test_what_was_told_may_be_handed_in_again(self):
        for strings, steps, memory in parts():
            hall = Hall(strings, steps, memory)
            self.assertEqual(Hall(hall.strings(), hall.steps(), hall.memory()), hall)

    def test_halls_do_not_share_what_they_are(self):
        one = Hall(STRINGS, STEPS, MEMORY)
        Hall([[1]], [[2]], [3])
        self.assertEqual(one, Hall(STRINGS, STEPS, MEMORY))


class Refusals(unittest.TestCase):
    def check_refused(self, part, *mix):
        with self.assertRaises(BadHall) as caught:
            Hall(*mix)
        self.assertEqual(caught.exception.part, part, mix)
        with self.assertRaises(BadHall) as caught:
            Hall(**dict(zip(("strings", "steps", "memory"), mix)))
        self.assertEqual(caught.exception.part, part, mix)

    def check_strings(self, bad):
        self.check_refused("strings", bad, STEPS, MEMORY)
        self.check_refused("strings", bad, STEPS)

    def check_steps(self, bad):
        for strings in row_forms(STRINGS):
            self.check_refused("steps", strings, bad, MEMORY)
        self.check_refused("steps", STRINGS, bad)

    def check_memory(self, bad):
        self.check_refused("memory", STRINGS, STEPS, bad)
        self.check_refused("memory", as_lists(STRINGS), tuple(STEPS), bad)

    def test_strings_of_no_row(self):
        for bad in ([], ()):
            self.check_refused("strings", bad, [], [1])
            self.check_refused("strings", bad, [[1]], [1])
            self.check_strings(bad)

    def test_strings_not_square(self):
        for bad in ([[]], ((),), [[1, 2]], [[1], [2]], [[0, 1], [2]], [[0], [1, 2]], [[0, 1], [2, 3, 4]],
                    [[0, 1, 2], [3, 4, 5]], [[0, 1], [2, 3], [4, 5]], [[], []], [[1, 2, 3], [4, 5, 6], [7, 8]],
                    [[1, 2, 3], [4, 5, 6], []], [[1, 2], [4, 5, 6], [7, 8, 9]]):
            for form in row_forms(bad):
                self.check_strings(form)
                self.check_refused("strings", form, [[1]] * len(bad), [1])
        self.check_strings(STRINGS[:2])
        self.check_strings(STRINGS + [[0, 0, 0]])

    def test_strings_of_other_kinds(self):
        for bad in NEVER_RIGHT + NUMBERS + NUMBER_ROWS:
            self.check_strings(bad)
        for i in range(3):
            for bad in NEVER_RIGHT + NUMBERS + [[], (), [0], (1, 2), [1, 2, 3, 4]]:
                self.check_strings(put(STRINGS, i, bad))
                self.check_strings(tuple(put(STRINGS, i, bad)))
            for j in range(3):
                for bad in NEVER_RIGHT + NUMBER_ROWS:
                    self.check_strings(put_in(STRINGS, i, j, bad))

    def test_steps_of_too_many_or_few_persons(self):
        for bad in ([], [[1]], [[1], [2]], [[1], [2], [3], [4]]):
            for form in row_forms(bad):
                self.check_steps(form)
        self.check_refused("steps", [[0]], [[1], [2]], [1])
        self.check_refused("steps", [[0]], [], [1])

    def test_steps_none_or_five(self):
        for bad in ([], (), [1, 2, 3, 4, 5], (-2, -1, 0, 1, 2), list(range(9))):
            for i in range(3):
                self.check_steps(put(STEPS, i, bad))
                self.check_steps(tuple(put(STEPS, i, bad)))

    def test_steps_that_do_not_rise(self):
        for bad in ([1, 1], [2, 1], (0, -1), [1, 2, 2], [1, 1, 2], [1, 3, 2], [2, 1, 3], (1, 2, 3, 3), (1, 2, 4, 3),
                    [4, 3, 2, 1], [0, 0, 0, 0], [-1, -2]):
            for i in range(3):
                self.check_steps(put(STEPS, i, bad))

    def test_steps_of_other_kinds(self):
        for bad in NEVER_RIGHT + NUMBERS + NUMBER_ROWS:
            self.check_steps(bad)
        for i, row in enumerate(STEPS):
            for bad in NEVER_RIGHT + NUMBERS:
                self.check_steps(put(STEPS, i, bad))
            for k in range(len(row)):
                for bad in NEVER_RIGHT + NUMBER_ROWS:
                    self.check_steps(put_in(STEPS, i, k, bad))

    def test_memory_of_none_or_six(self):
        for bad in ([], (), [1] * 6, (1, 2, 3, 4, 5, 6), [0, 0, 0, 0, 0, 1], [1] * 50):
            self.check_memory(bad)

    def test_memory_whose_last_weight_is_0(self):
        for bad in ([0], (0,), [1, 0], (0, 0), [3, 2, 0], [1, 1, 1, 0], [1, 2, 3, 4, 0]):
            self.check_memory(bad)

    def test_memory_of_other_kinds(self):
        for bad in NEVER_RIGHT + NUMBERS:
            self.check_memory(bad)
        for memory in MEMORIES:
            for at in range(len(memory)):
                for bad in NEVER_RIGHT + NUMBER_ROWS:
                    self.check_memory(put(memory, at, bad))
                    self.check_memory(tuple(put(memory, at, bad)))

    def test_true_and_false_are_no_numbers(self):
        for no in (True, False):
            self.check_refused("strings", [[no]], [[1]], [1])
            self.check_refused("steps", [[0]], [[no]], [1])
            self.check_refused("steps", [[0]], [[-3, no]], [1])
            self.check_refused("memory", [[0]], [[1]], [no])
            self.check_refused("memory", [[0]], [[1]], [no, 1])

    def test_the_first_that_is_not_so_goes(self):
        all_bad = [None, 3, True, "abc", [], [[]], [[True]], [["a"]], [[1], [2]]]
        for strings in all_bad:
            for steps in (*all_bad, STEPS):
                for memory in (*all_bad, [0], MEMORY):
                    self.check_refused("strings", strings, steps, memory)
        for steps in all_bad:
            for memory in (*all_bad, [0], MEMORY):
                self.check_refused("steps", STRINGS, steps, memory)

    def test_a_right_hall_can_be_made_behind_a_refusal(self):
        self.check_refused("steps", STRINGS, [[1]], MEMORY)
        self.assertEqual(Hall(STRINGS, STEPS, MEMORY).memory(), (0, -4, 9))


if __name__ == "__main__":
    unittest.main()
