"""Halls, pasts and held persons that are drawn, the same at each run."""

from random import Random

from swayhalls.halls import Hall

WEIGHTS = [(1,), (-1,), (2, 1), (1, -1), (0, 3), (1, 0, 1), (-1, 2, -3), (1, 1, 1, 1), (0, 0, 0, -2), (1, -2, 0, 2, -1)]


def draw_steps(draw, top, reach):
    return sorted(draw.sample(range(-reach, reach + 1), top))


def draw_hall(draw, persons=None, memory=None, reach=9):
    persons = draw.randint(1, 5) if persons is None else persons
    memory = draw.choice(WEIGHTS) if memory is None else memory
    strings = [[draw.randint(-reach, reach) for _ in range(persons)] for _ in range(persons)]
    return Hall(strings, [draw_steps(draw, draw.randint(1, 4), 2 * reach) for _ in range(persons)], memory)


def draw_standing(draw, hall):
    return tuple(draw.randint(0, top) for top in hall.tops())


def draw_past(draw, hall):
    return [draw_standing(draw, hall) for _ in hall.memory()]


def draw_held(draw, hall, many=None):
    many = draw.randint(0, len(hall)) if many is None else many
    return [(person, draw.randint(0, hall.tops()[person])) for person in draw.sample(range(len(hall)), many)]


def draws(seed, many):
    """So many triples of a hall, a past of it and somebody, nobody or everybody held."""
    draw = Random(seed)
    for _ in range(many):
        hall = draw_hall(draw)
        yield hall, draw_past(draw, hall), draw_held(draw, hall)
