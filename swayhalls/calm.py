"""Halls of the last beat alone, whose persons take their turns one by one, and the calm ones, which come to rest so."""

from swayhalls.beats import leant_to, pulls
from swayhalls.errors import NotCalm, TooMany
from swayhalls.limits import MOST_STANDINGS
from swayhalls.scales import scales_of
from swayhalls.survey import all_standings, many_standings
from swayhalls.worth import climbs_of, middled


def is_calm(hall):
    """Whether the hall remembers the last beat as it was, strings are straight, and nobody pulls itself back."""
    backwards = [person for person, row in enumerate(hall.strings()) if row[person] < 0]
    return hall.memory() == (1,) and backwards == [] and scales_of(hall) is not None


def refuse_unrest(hall):
    """Refused where the hall isn't calm."""
    if not is_calm(hall):
        raise NotCalm()


def turned_to(hall, standing, person):
    """The standing behind that person's turn."""
    return standing[:person] + (leant_to(hall, [standing], person),) + standing[person + 1:]


def restless(hall, standing):
    """The rising list of those whose turn would change the standing."""
    return [person for person in range(len(hall)) if leant_to(hall, [standing], person) != standing[person]]


def calm_worth(hall, standing):
    """The standing's worth, which each turn that changes a posture makes less."""
    refuse_unrest(hall)
    scales, swings = scales_of(hall), middled(hall, standing)
    paid = [scale * 2 * climb[posture] for scale, climb, posture in zip(scales, climbs_of(hall), standing)]
    # how what's middled would pull is linear, as pulls are
    swung = pulls(hall, [swings])
    return sum(paid) - sum([scale * swing * pull for scale, swing, pull in zip(scales, swings, swung)])


def rest_by(hall, standing, order):
    """The standing in which nobody is restless, come to by turns in that order, and whose turns changed something."""
    refuse_unrest(hall)
    turns = []
    while len(restless(hall, standing)) > 0:
        for person in order:
            later = turned_to(hall, standing, person)
            if later != standing:
                turns.append(person)
            standing = later
    return (standing, turns)


def rests_of(hall):
    """The rising list of all standings in which nobody is restless."""
    many = many_standings(hall)
    if many > MOST_STANDINGS:
        raise TooMany(many)
    return [standing for standing in all_standings(hall) if restless(hall, standing) == []]
