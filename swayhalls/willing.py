"""Willing halls, which only pull up: what stands nowhere less leans nowhere less."""

from swayhalls.beats import history
from swayhalls.errors import NotWilling
from swayhalls.rounds import round_of


def is_willing(hall):
    """Whether no weight times a string is below 0."""
    return all([weight * string >= 0 for weight in hall.memory() for row in hall.strings() for string in row])


def refuse_unwilling(hall):
    """Refused where the hall isn't willing."""
    if not is_willing(hall):
        raise NotWilling()


def rest_from(hall, standing, held):
    """To which standing a willing hall comes from noughts or tops, and the first beat from which on it's so."""
    beats = len(hall.memory())
    past = [standing] * beats
    # its persons move one way only, and as many beats of one standing as are remembered are followed by a move or none
    begin, length = round_of(hall, past, held=held, most=beats * sum(hall.tops()) + 1)
    return (history(hall, past, begin, held=held)[begin], begin)


def noughts(hall):
    """The standing of noughts."""
    return (0,) * len(hall)


def least_rest(hall):
    """The standing to which the hall comes from noughts, and the first beat from which on it's so."""
    refuse_unwilling(hall)
    return rest_from(hall, noughts(hall), ())


def greatest_rest(hall):
    """The standing to which the hall comes from tops, and the first beat from which on it's so."""
    refuse_unwilling(hall)
    return rest_from(hall, hall.tops(), ())


def is_within(low, high, standing):
    """Whether standing is nowhere below low, nowhere above high."""
    return all([least <= posture <= most for least, posture, most in zip(low, standing, high)])


def do_push(hall, pushers, person):
    """Whether these, held at their tops, bring that person to its top for good."""
    tops = hall.tops()
    standing, begin = rest_from(hall, noughts(hall), [(one, tops[one]) for one in pushers])
    return standing[person] == tops[person]


def fewest_pushes(hall, person):
    """The first of the shortest rising lists of others who bring that person to its top; None where all don't."""
    refuse_unwilling(hall)
    others = [one for one in range(len(hall)) if one != person]
    if not do_push(hall, others, person):
        return None
    lists = [[]]
    # all others do, so some list is found before there are no longer ones
    while True:
        for pushers in lists:
            if do_push(hall, pushers, person):
                return pushers
        lists = [pushers + [one] for pushers in lists for one in others if pushers == [] or one > pushers[-1]]
