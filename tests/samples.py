"""What the tests share: halls to make, things of every kind, and ways to write the same otherwise."""

from copy import deepcopy
from itertools import product


def deep(depth, kind):
    thing = kind()
    for _ in range(depth - 1):
        thing = kind([thing])
    return thing


# No row of numbers and no number, whatever place they stand in.
NEVER_RIGHT = [
    True, False, None, "", "0", "1", "12", "memory", "a" * 200, [[]], ((),), [None], (True,), [False], ["1"], ("",),
    [1, None], (1, True), [0, "2"], [[1], 2], (1, (2,)), [[True]], ((1, False),), [["1"]], [[[1]]], (((0,),),),
    deep(12, list), deep(12, tuple), [[0]] * 900 + [None],
]

NUMBERS = [0, 1, -1, 2, 7, 10 ** 30]

NUMBER_ROWS = [[], (), [0], (1,), [1, 2], (-3, 0, 5), [0] * 3999, (1,) * 3999]

THINGS = NEVER_RIGHT + NUMBERS + NUMBER_ROWS


def strings_of(persons):
    return tuple(tuple((7 * i - 5 * j * j) % 199 - 99 for j in range(persons)) for i in range(persons))


def steps_of(persons):
    return tuple(tuple(11 * i - 40 + 3 * k * (k + 1) for k in range(1 + i % 4)) for i in range(persons))


MEMORIES = [(1,), (-9,), (0, 2), (3, -3), (1, 0, 1), (0, 0, 0, -1), (9, -9, 0, 4, 5)]


def parts():
    """Strings, steps and memory of right halls, as tuples."""
    for persons, memory in product((1, 2, 3, 5, 12), MEMORIES):
        yield strings_of(persons), steps_of(persons), memory


def as_lists(rows):
    return [list(row) for row in rows]


def row_forms(rows):
    """The same rows as lists and tuples, mixed at each depth."""
    return [
        tuple(tuple(row) for row in rows),
        [tuple(row) for row in rows],
        tuple(list(row) for row in rows),
        as_lists(rows),
        [list(row) if at % 2 else tuple(row) for at, row in enumerate(rows)],
        tuple(tuple(row) if at % 2 else list(row) for at, row in enumerate(rows)),
    ]


def all_forms(strings, steps, memory):
    """The same parts in every mix of lists and tuples, each time made anew."""
    for mix in product(row_forms(strings), row_forms(steps), (tuple(memory), list(memory))):
        yield deepcopy(mix)


def put(rows, at, new):
    """The same list with another thing at one place."""
    rows = list(rows)
    rows[at] = new
    return rows


def put_in(rows, at, place, new):
    """The same list of lists with another thing at one place of one of them."""
    return put(rows, at, put(rows[at], place, new))
