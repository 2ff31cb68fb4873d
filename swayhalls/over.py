"""Halls led over into others."""

from swayhalls.beats import lean
from swayhalls.errors import Alone, NoPerson, Unlike
from swayhalls.halls import Hall, is_person
from swayhalls.survey import all_pasts


def refuse_strangers(hall, persons):
    """Refused with the first of these who isn't there."""
    for person in persons:
        if not is_person(hall, person):
            raise NoPerson(person)


def steady_pulls(hall, person, posture):
    """For each person how much that one pulls at it while it stands so at all beats."""
    weight = sum(hall.memory())
    return [weight * row[person] * posture for row in hall.strings()]


def lessened(steps, much):
    """The same steps, each less by so much."""
    return [step - much for step in steps]


def turned_over(hall, person):
    """The hall in which that person's postures are counted from its top down."""
    refuse_strangers(hall, [person])
    strings = [[-string if (one == person) != (other == person) else string for other, string in enumerate(row)]
               for one, row in enumerate(hall.strings())]
    pulled = steady_pulls(hall, person, hall.tops()[person])
    steps = [lessened(row, much) for row, much in zip(hall.steps(), pulled)]
    # it stands as many steps up as weren't reached: those greater than the pull, by whole numbers
    steps[person] = [1 - step + pulled[person] for step in hall.steps()[person][::-1]]
    return Hall(strings, steps, hall.memory())


def left_out(hall, person, posture):
    """The hall without that person, in which all others go as where it's held so."""
    refuse_strangers(hall, [person])
    if len(hall) == 1:
        raise Alone()
    pulled = steady_pulls(hall, person, posture)
    steps = [lessened(row, much) for row, much in zip(hall.steps(), pulled)]
    others = [one for one in range(len(hall)) if one != person]
    return as_piece(Hall(hall.strings(), steps, hall.memory()), others)


def beside(one, other):
    """Both halls as one, no strings between."""
    if one.memory() != other.memory():
        raise Unlike()
    strings = [row + (0,) * len(other) for row in one.strings()] + [(0,) * len(one) + row for row in other.strings()]
    return Hall(strings, one.steps() + other.steps(), one.memory())


def tied(hall, one, other, weight, *, back=None):
    """The hall in which other pulls at one by weight, one at other by back."""
    refuse_strangers(hall, [one, other])
    strings = [list(row) for row in hall.strings()]
    strings[other][one] = weight if back is None else back
    # behind the way back, so that one's own string is weight
    strings[one][other] = weight
    return Hall(strings, hall.steps(), hall.memory())


def stepped(hall, person, steps):
    """The hall in which that person has these steps."""
    refuse_strangers(hall, [person])
    rows = list(hall.steps())
    rows[person] = steps
    return Hall(hall.strings(), rows, hall.memory())


def as_piece(hall, piece):
    """The hall of these persons alone."""
    refuse_strangers(hall, piece)
    rows, steps = hall.strings(), hall.steps()
    strings = [[rows[one][other] for other in piece] for one in piece]
    return Hall(strings, [steps[one] for one in piece], hall.memory())


def parting_past(one, other):
    """The first past by which both halls don't lean alike; None where there's none."""
    for past in all_pasts(one):
        if lean(one, past) != lean(other, past):
            return list(past)
    return None
