"""Halls, pasts and held persons that are drawn, the same at each run."""

from math import gcd
from random import Random

from swayhalls.halls import Hall

WEIGHTS = [(1,), (-1,), (2, 1), (1, -1), (0, 3), (1, 0, 1), (-1, 2, -3), (1, 1, 1, 1), (0, 0, 0, -2), (1, -2, 0, 2, -1)]


def draw_steps(draw, top, reach):
    return sorted(draw.sample(range(-reach, reach + 1), top))


def draw_hall(draw, persons=None, memory=None, reach=9):
    persons = draw.randint(1, 5) if persons is None else persons
    memory = draw.choice(WEIGHTS) if memory is None else memory
    strings = [[draw.randint(-reach, reach) for _ in range(persons)] for _ in range(persons)]
    return Hall(strings, [draw_steps(draw, draw.randint(1, 4), 2 * reach) for _ in range(persons)], memory)


def draw_standing(draw, hall):
    return tuple(draw.randint(0, top) for top in hall.tops())


def draw_past(draw, hall):
    return [draw_standing(draw, hall) for _ in hall.memory()]


def draw_held(draw, hall, many=None):
    many = draw.randint(0, len(hall)) if many is None else many
    return [(person, draw.randint(0, hall.tops()[person])) for person in draw.sample(range(len(hall)), many)]


def draws(seed, many):
    """So many triples of a hall, a past of it and somebody, nobody or everybody held."""
    draw = Random(seed)
    for _ in range(many):
        hall = draw_hall(draw)
        yield hall, draw_past(draw, hall), draw_held(draw, hall)


STRAIGHT = [(1,), (-1,), (2,), (1, 1), (-2, -2), (1, 0, 1), (1, -2, 1), (2, 1, 1, 2), (1, 0, -3, 0, 1)]
TURNED = [(1, -1), (-2, 2), (1, 0, -1), (2, 1, -1, -2), (1, -1, 1, -1), (1, 2, 0, -2, -1), (-3, 0, 0, 3)]


def draw_scales(draw, persons, most=6):
    return [draw.randint(1, most) for _ in range(persons)]


def strings_by(draw, scales, turned, reach=3, thick=0.7):
    """Strings that are straight, or turned, by these scales."""
    persons = len(scales)
    strings = [[0] * persons for _ in range(persons)]
    for i in range(persons):
        if not turned:
            strings[i][i] = draw.randint(-reach, reach)
        for j in range(i):
            if draw.random() < thick:
                much, common = draw.randint(-reach, reach), gcd(scales[i], scales[j])
                strings[i][j] = much * scales[j] // common
                strings[j][i] = (-much if turned else much) * scales[i] // common
    return strings


def draw_even(draw, persons=None, turned=None):
    """A hall that is even, by drawn scales: both straight, or both turned."""
    persons = draw.randint(1, 4) if persons is None else persons
    turned = draw.random() < 0.5 if turned is None else turned
    strings = strings_by(draw, draw_scales(draw, persons), turned)
    steps = [draw_steps(draw, draw.randint(1, 4), 25) for _ in range(persons)]
    return Hall(strings, steps, draw.choice(TURNED if turned else STRAIGHT))


def balanced_steps(draw, top, middle):
    """Steps each of which is with its opposite one middle and 1; None where one in the midst can't be."""
    if top % 2 == 1 and middle % 2 == 0:
        return None
    low = (middle + 1) // 2 if middle % 2 == 0 else (middle - 1) // 2
    firsts = sorted(low - away for away in draw.sample(range(12), top // 2))
    midst = [(middle + 1) // 2] if top % 2 == 1 else []
    return firsts + midst + [middle + 1 - step for step in firsts[::-1]]


def draw_mirrored(draw, persons=None, turned=None):
    """A hall of straight strings and turned memory, or (turned) the other way round, all balanced."""
    while True:
        many = draw.randint(2, 4) if persons is None else persons
        turns = draw.random() < 0.5 if turned is None else turned
        strings = strings_by(draw, draw_scales(draw, many, 3), turns)
        memory = draw.choice(STRAIGHT if turns else TURNED)
        tops = [draw.choice((1, 2, 3, 4) if turns else (2, 4)) for _ in range(many)]
        middles = [sum(memory) * sum(much * top for much, top in zip(row, tops)) for row in strings]
        steps = [balanced_steps(draw, top, middle) for top, middle in zip(tops, middles)]
        if None not in steps and any(map(any, strings)):
            return Hall(strings, steps, memory)
