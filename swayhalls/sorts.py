"""Sorts: persons who are alike, by steps and by what pulls at them, and the lesser hall in which they are one."""

from swayhalls.errors import NotLike, NotSorts
from swayhalls.halls import Hall, is_person
from swayhalls.things import are_numbers, does_rise


def parted_by(marks):
    """The persons, in lists of those with the same mark, each rising, by their least ones."""
    lists = {}
    for person, mark in enumerate(marks):
        lists[mark] = lists.get(mark, []) + [person]
    return list(lists.values())


def sums_from(hall, lists, person):
    """For each list the sum of the strings by which its persons pull at that person."""
    row = hall.strings()[person]
    return tuple([sum([row[other] for other in persons]) for persons in lists])


def level_behind(hall, lists):
    """The lists of the next level."""
    marks = [None] * len(hall)
    for at, persons in enumerate(lists):
        for person in persons:
            marks[person] = (at, sums_from(hall, lists, person))
    return parted_by(marks)


def levels_of(hall):
    """The lists of each level, up to the one at which no list is parted any more."""
    levels = [parted_by(hall.steps())]
    later = level_behind(hall, levels[-1])
    while len(later) > len(levels[-1]):
        levels.append(later)
        later = level_behind(hall, later)
    return levels


def is_person_list(hall, thing):
    """Whether it's a rising list of persons, not bare."""
    if not isinstance(thing, list) or len(thing) == 0 or not are_numbers(thing):
        return False
    return does_rise(thing) and all([is_person(hall, one) for one in thing])


def are_person_lists(hall, thing):
    """Whether it's a list of rising lists of persons, by their least ones, each person in one of them."""
    if not isinstance(thing, list) or not all([is_person_list(hall, one) for one in thing]):
        return False
    told = sorted([person for persons in thing for person in persons])
    return told == list(range(len(hall))) and does_rise([persons[0] for persons in thing])


def are_alike(hall, lists, persons):
    """Whether these persons have the same steps, and from each list the same sum of strings."""
    first, steps = persons[0], hall.steps()
    sums = sums_from(hall, lists, first)
    return all([steps[one] == steps[first] and sums_from(hall, lists, one) == sums for one in persons])


def are_sorts(hall, thing):
    """Whether it's sorts of the hall."""
    return are_person_lists(hall, thing) and all([are_alike(hall, thing, persons) for persons in thing])


def sorts_of(hall):
    """The sorts of the fewest lists."""
    return levels_of(hall)[-1]


def lesser(hall, sorts):
    """The hall of one person for each list."""
    lists = [list(persons) for persons in sorts]
    if not are_sorts(hall, lists):
        raise NotSorts()
    firsts = [persons[0] for persons in lists]
    steps = hall.steps()
    return Hall([sums_from(hall, lists, first) for first in firsts], [steps[first] for first in firsts], hall.memory())


def told_small(standing, sorts):
    """The lesser hall's standing for one in which the persons of each list stand alike."""
    small = []
    for at, persons in enumerate(sorts):
        postures = [standing[person] for person in persons]
        if min(postures) != max(postures):
            raise NotLike(at)
        small.append(postures[0])
    return tuple(small)


def told_wide(standing, sorts):
    """The standing in which each person stands as its list does in the lesser hall."""
    wide = {person: posture for posture, persons in zip(standing, sorts) for person in persons}
    return tuple([wide[person] for person in sorted(wide)])


def level_of(hall, one, other):
    """The first level at which both aren't in one list; None where there's none."""
    for level, lists in enumerate(levels_of(hall)):
        if not any([one in persons and other in persons for persons in lists]):
            return level
    return None
