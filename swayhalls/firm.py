"""Groups that stand firm, whatever all others do, and pasts that move those who are in none."""

from swayhalls.beats import leant_to, pulled_by, weighed
from swayhalls.halls import is_past, is_person


def far_past(hall, standing, group, person, side):
    """The past by which that person is pulled most, side being 1, or least, -1, while the group stands as it does."""
    tops, row = hall.tops(), hall.strings()[person]
    past = []
    for weight in hall.memory():
        postures = [top if side * weight * string > 0 else 0 for string, top in zip(row, tops)]
        for one in group:
            postures[one] = standing[one]
        past.append(tuple(postures))
    return past[::-1]


def span_of(hall, standing, group, person):
    """The least and the greatest pull at that person while the group stands as it does."""
    row = hall.strings()[person]
    low, high = [far_past(hall, standing, group, person, side) for side in (-1, 1)]
    return (pulled_by(row, weighed(hall, low)), pulled_by(row, weighed(hall, high)))


def moving_past(hall, standing, group, person):
    """A past by which that person leans otherwise while the group stands as it does; None where there's none."""
    # greater pulls lean no less, so one between both leans otherwise only where one of both does
    for side in (-1, 1):
        past = far_past(hall, standing, group, person, side)
        if leant_to(hall, past, person) != standing[person]:
            return past
    return None


def is_firm(hall, standing, group):
    """Whether each of the group leans as it stands, whatever all others do."""
    return all([moving_past(hall, standing, group, person) is None for person in group])


def mover_in(hall, standing, group):
    """Somebody of the group who can be moved by those who aren't in it, with the past; None where nobody can."""
    for person in group:
        past = moving_past(hall, standing, group, person)
        if past is not None:
            return (person, past)
    return None


def movers(hall, standing):
    """All who are in no firm group, each with a past by which those ahead move it."""
    group = list(range(len(hall)))
    moved = []
    found = mover_in(hall, standing, group)
    while found is not None:
        moved.append(found)
        group.remove(found[0])
        found = mover_in(hall, standing, group)
    return moved


def firm_of(hall, standing):
    """The greatest firm group."""
    gone = [person for person, past in movers(hall, standing)]
    return [person for person in range(len(hall)) if person not in gone]


def is_mover(hall, standing, group, thing):
    """Whether it's a pair of one of the group and a past that moves it while the group stands as it does."""
    if not isinstance(thing, tuple) or len(thing) != 2:
        return False
    person, past = thing
    if not is_person(hall, person) or person not in group or not is_past(hall, past):
        return False
    kept = all([then[one] == standing[one] for then in past for one in group])
    return kept and leant_to(hall, past, person) != standing[person]


def shows_movers(hall, standing, thing):
    """Whether it's a list of pairs of unlike persons and pasts by which those ahead move them."""
    if not isinstance(thing, list):
        return False
    group = list(range(len(hall)))
    for one in thing:
        if not is_mover(hall, standing, group, one):
            return False
        group.remove(one[0])
    return True
