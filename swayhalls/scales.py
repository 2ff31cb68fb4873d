"""Scales by which strings are straight or turned, or persons who show that there are none."""

from swayhalls.halls import is_person
from swayhalls.things import are_numbers


def hang_together(strings, one, other):
    """Whether one of both pulls at the other."""
    return strings[one][other] != 0 or strings[other][one] != 0


def tree_from(strings, first):
    """Who hangs together with that person: for each by whom it was come to, in the order in which they were."""
    come_by = {first: None}
    waiting = [first]
    while len(waiting) > 0:
        one = waiting.pop(0)
        for other in range(len(strings)):
            if other not in come_by and hang_together(strings, one, other):
                come_by[other] = one
                waiting.append(other)
    return come_by


def trees_of(strings):
    """The tree of each piece, from its least person on."""
    trees = []
    for person in range(len(strings)):
        if not any([person in tree for tree in trees]):
            trees.append(tree_from(strings, person))
    return trees


def pieces_of(hall):
    """The rising lists of persons who hang together, by their least ones."""
    return [sorted(tree) for tree in trees_of(hall.strings())]


def common_divisor(one, other):
    """The greatest divisor that both have."""
    while other != 0:
        one, other = other, one % other
    return one


def piece_scales(strings, come_by):
    """For each person of a piece the scale that it needs for its strings with the one by whom it was come to."""
    scales = {}
    for person, ahead in come_by.items():
        if ahead is None:
            scales[person] = 1
        else:
            over, under = scales[ahead] * abs(strings[ahead][person]), abs(strings[person][ahead])
            common = common_divisor(over, under)
            # the new one has no divisor in common with what all others are multiplied by: so none comes up
            scales = {one: scales[one] * (under // common) for one in scales}
            scales[person] = over // common
    return scales


def trail_from(come_by, person):
    """Those by whom that person was come to, from itself on back to the first."""
    trail = [person]
    while come_by[trail[-1]] is not None:
        trail.append(come_by[trail[-1]])
    return trail


def ring_of(come_by, one, other):
    """The ring that a string between both, which is none of the tree's, closes with the tree's strings."""
    there, back = trail_from(come_by, one), trail_from(come_by, other)
    # neither is on the other's trail: it would have come to that one itself, by the string between both
    while there[-2] == back[-2]:
        there.pop()
        back.pop()
    return tuple(there + back[:-1][::-1])


def ring_without_scales(strings, come_by):
    """A ring of a piece whose strings no scales fit, where each two persons' do; None where there's none."""
    scales = piece_scales(strings, come_by)
    for one in scales:
        for other in scales:
            if scales[one] * abs(strings[one][other]) != scales[other] * abs(strings[other][one]):
                return ring_of(come_by, one, other)
    return None


def all_round(strings, ring):
    """How much each one's next pulls at it, the first at the last, all multiplied."""
    much = 1
    for one, other in zip(ring, ring[1:] + ring[:1]):
        much *= strings[one][other]
    return much


def shows_fault(strings, persons, turned):
    """Whether these persons, unlike ones, one at least, show that there are no scales."""
    if len(persons) == 1:
        return turned and strings[persons[0]][persons[0]] != 0
    if len(persons) == 2:
        there, back = strings[persons[0]][persons[1]], strings[persons[1]][persons[0]]
        if there == 0 or back == 0:
            return there != back
        return ((there > 0) == (back > 0)) == turned
    side = -1 if turned and len(persons) % 2 == 1 else 1
    return all_round(strings, persons) != side * all_round(strings, persons[::-1])


def no_scales(hall, *, turned=False):
    """Persons who show that there are no scales; None where there are some."""
    strings = hall.strings()
    ones = [(one,) for one in range(len(strings))]
    twos = [(one, other) for other in range(len(strings)) for one in range(other)]
    for persons in ones + twos:
        if shows_fault(strings, persons, turned):
            return persons
    for come_by in trees_of(strings):
        ring = ring_without_scales(strings, come_by)
        if ring is not None:
            return ring
    return None


def scales_of(hall, *, turned=False):
    """The scales by which strings are straight, or turned, in lowest terms by pieces; None where there are none."""
    if no_scales(hall, turned=turned) is not None:
        return None
    strings = hall.strings()
    scales = [1] * len(strings)
    for come_by in trees_of(strings):
        for person, scale in piece_scales(strings, come_by).items():
            scales[person] = scale
    return scales


def are_scales(strings, scales, turned):
    """Whether by these numbers strings are straight, or turned."""
    side = -1 if turned else 1
    persons = list(range(len(strings)))
    return all([scales[i] * strings[i][j] == side * scales[j] * strings[j][i] for i in persons for j in persons])


def shows_scales(hall, thing, *, turned=False):
    """Whether it's a list of scales by which strings are straight, or turned."""
    if not isinstance(thing, list) or not are_numbers(thing) or len(thing) != len(hall):
        return False
    return all([scale > 0 for scale in thing]) and are_scales(hall.strings(), thing, turned)


def shows_no_scales(hall, thing, *, turned=False):
    """Whether it's a tuple of persons who show that there are no scales."""
    if not isinstance(thing, tuple) or len(thing) == 0 or not all([is_person(hall, one) for one in thing]):
        return False
    return len(set(thing)) == len(thing) and shows_fault(hall.strings(), thing, turned)
