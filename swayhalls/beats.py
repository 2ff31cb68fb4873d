"""Beats: how persons are pulled and lean, what comes of a past, and halls that are kept swaying."""

from swayhalls.errors import BadPosture, NoPerson, NotHeld
from swayhalls.halls import is_person, is_posture


def weighed(hall, past):
    """For each person its postures of the past together, each by the weight of its beat."""
    # a shorter past pulls by the weights of its beats alone: the sums of the worth need that
    ahead = past[::-1]
    return [sum([weight * posture for weight, posture in zip(hall.memory(), postures)]) for postures in zip(*ahead)]


def pulled_by(row, much):
    """The pull by these strings, where each one pulls by so much."""
    return sum([string * one for string, one in zip(row, much)])


def pulls(hall, past):
    """For each person its pull by what is remembered."""
    much = weighed(hall, past)
    return tuple([pulled_by(row, much) for row in hall.strings()])


def leant_to(hall, past, person):
    """The posture to which that person alone leans by what is remembered."""
    pull = pulled_by(hall.strings()[person], weighed(hall, past))
    return reached(hall.steps()[person], pull)


def reached(steps, pull):
    """How many of the steps are no greater than the pull."""
    return len([step for step in steps if step <= pull])


def as_held(standing, grips):
    """The standing with each person who is held as it's held; grips tells each such one's posture."""
    return tuple([grips.get(person, posture) for person, posture in enumerate(standing)])


def grips_of(held):
    """For each person who is held its posture."""
    return {person: posture for person, posture in held}


def leant(hall, past, grips):
    """The standing behind that past, as it's remembered, where these persons are held from now on."""
    postures = [reached(steps, pull) for steps, pull in zip(hall.steps(), pulls(hall, past))]
    return as_held(postures, grips)


def lean(hall, past, *, held=()):
    """The standing of the next beat."""
    grips = grips_of(held)
    return leant(hall, [as_held(standing, grips) for standing in past], grips)


def history(hall, past, many, *, held=()):
    """The standings of the past and of so many beats behind it."""
    grips = grips_of(held)
    standings = [as_held(standing, grips) for standing in past]
    for beat in range(many):
        standings.append(leant(hall, standings[beat:], grips))
    return standings


class Sway:
    """A hall that goes on from a past, beat by beat, and whose persons can be held."""

    def __init__(self, hall, past, *, held=()):
        self.home = hall
        self.grips = grips_of(held)
        self.standings = [as_held(standing, self.grips) for standing in past]
        self.gone = 0

    def beat(self, many=1):
        """So many beats come; told is the last standing then."""
        for turn in range(many):
            self.standings = self.standings[1:] + [leant(self.home, self.standings, self.grips)]
        self.gone += many
        return self.standings[-1]

    def past(self):
        """What is remembered, the last beat's standing last."""
        return list(self.standings)

    def hold(self, person, posture):
        """From now on that person stands so."""
        if not is_person(self.home, person):
            raise NoPerson(person)
        if not is_posture(self.home, person, posture):
            raise BadPosture(posture)
        self.grips[person] = posture

    def loose(self, person):
        """From now on that person leans again."""
        if not is_person(self.home, person):
            raise NoPerson(person)
        if person not in self.grips:
            raise NotHeld(person)
        del self.grips[person]

    def held(self):
        """The rising list of those held, each with its posture."""
        return [(person, self.grips[person]) for person in sorted(self.grips)]

    def twin(self):
        """One of its own that's the same."""
        other = Sway(self.home, self.standings)
        # not handed in as held: that would change what is remembered
        other.grips = dict(self.grips)
        other.gone = self.gone
        return other

    def moved_to(self, hall):
        """One of its own that goes on in another hall of as many persons; a posture above a top there is that top."""
        other, tops = self.twin(), hall.tops()
        other.home = hall
        other.standings = [tuple([min(one, top) for one, top in zip(then, tops)]) for then in self.standings]
        other.grips = {person: min(self.grips[person], tops[person]) for person in self.grips}
        return other

    def __eq__(self, other):
        return (isinstance(other, Sway) and self.home == other.home
                and self.standings == other.standings and self.grips == other.grips)

    def __len__(self):
        return len(range(self.gone))
