"""The document's words once more, written as plainly as they can be, for the tests to compare with."""

from itertools import product

from swayhalls.scales import scales_of


def held_in(standing, held):
    return tuple(dict(held).get(person, posture) for person, posture in enumerate(standing))


def pull_of(hall, past, person):
    memory, strings, total = hall.memory(), hall.strings(), 0
    for ago in range(1, len(memory) + 1):
        for other in range(len(strings)):
            total += memory[ago - 1] * strings[person][other] * past[len(past) - ago][other]
    return total


def next_of(hall, past, held=()):
    """The next standing, the past being taken as it's told."""
    leans = []
    for person, steps in enumerate(hall.steps()):
        pull, posture = pull_of(hall, past, person), 0
        while posture < len(steps) and steps[posture] <= pull:
            posture += 1
        leans.append(posture)
    return held_in(leans, held)


def history_of(hall, past, many, held=()):
    rows = [held_in(standing, held) for standing in past]
    for _ in range(many):
        rows.append(next_of(hall, rows[-len(past):], held))
    return rows


def round_in(rows, beats):
    """The least (b, l), by looking at all pairs, in rows long enough to have it; None where they aren't."""
    for length in range(1, len(rows)):
        for begin in range(len(rows) - length - beats + 1):
            if rows[begin:begin + beats] == rows[begin + length:begin + length + beats]:
                return begin, length
    return None


def pasts_of(hall):
    return [list(past) for past in product(standings_of(hall), repeat=len(hall.memory()))]


def turned_round(cycle):
    """The same cycle, told from its least place on."""
    return min(tuple(cycle[at:] + cycle[:at]) for at in range(len(cycle)))


def standings_of(hall):
    return list(product(*[range(top + 1) for top in hall.tops()]))


def scales_told(hall):
    return scales_of(hall) if scales_of(hall) is not None else scales_of(hall, turned=True)


def weight_sum(hall, person, posture):
    """The weights of that person's first steps together, as many as its posture."""
    middle = sum(hall.memory()) * sum(s * t for s, t in zip(hall.strings()[person], hall.tops()))
    return sum(2 * step - 1 - middle for step in hall.steps()[person][:posture])


def worth_by_words(hall, window):
    scales, strings, tops, memory = scales_told(hall), hall.strings(), hall.tops(), hall.memory()
    persons, total = range(len(hall)), 0
    for standing in window:
        for i in persons:
            total += scales[i] * 2 * weight_sum(hall, i, standing[i])
    for late, early in product(range(len(window)), repeat=2):
        if early < late:
            for i, j in product(persons, repeat=2):
                own, other = 2 * window[late][i] - tops[i], 2 * window[early][j] - tops[j]
                total -= memory[late - early - 1] * scales[i] * strings[i][j] * own * other
    return total


def down(hall, person, standing):
    """The standing with that person's posture told from its top down."""
    return tuple(hall.tops()[person] - posture if one == person else posture for one, posture in enumerate(standing))


def without(standing, person):
    return standing[:person] + standing[person + 1:]
