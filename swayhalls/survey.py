"""All pasts of a hall at once: which rounds they come to, and how long that takes."""

from swayhalls.beats import lean
from swayhalls.errors import TooMany
from swayhalls.limits import MOST_PASTS


def many_standings(hall):
    """How many standings the hall has."""
    many = 1
    for top in hall.tops():
        many *= top + 1
    return many


def many_pasts(hall):
    """How many pasts the hall has."""
    many = 1
    for weight in hall.memory():
        many *= many_standings(hall)
    return many


def all_standings(hall):
    """The rising list of all standings."""
    standings = [()]
    for top in hall.tops():
        standings = [standing + (posture,) for standing in standings for posture in range(top + 1)]
    return standings


def all_pasts(hall):
    """The rising list of all pasts, as tuples; refused where they are too many."""
    many = many_pasts(hall)
    if many > MOST_PASTS:
        raise TooMany(many)
    standings = all_standings(hall)
    pasts = [()]
    for weight in hall.memory():
        pasts = [past + (standing,) for past in pasts for standing in standings]
    return pasts


def led_to(hall, pasts):
    """For each past the number of the one that is remembered a beat behind."""
    numbers = {past: at for at, past in enumerate(pasts)}
    return [numbers[past[1:] + (lean(hall, past),)] for past in pasts]


def never_again(after):
    """The numbers of the pasts that don't come again, each one ahead of the one that it leads to."""
    comers = [0] * len(after)
    for to in after:
        comers[to] += 1
    order = [at for at, many in enumerate(comers) if many == 0]
    done = 0
    while done < len(order):
        to = after[order[done]]
        comers[to] -= 1
        if comers[to] == 0:
            order.append(to)
        done += 1
    return order


def waits_by(after):
    """For each past the least beat from which on its history goes round."""
    waits = [0] * len(after)
    for at in never_again(after)[::-1]:
        waits[at] = waits[after[at]] + 1
    return waits


def round_lengths(hall):
    """The rising list of pairs (length, how many rounds of it some past comes to)."""
    after = led_to(hall, all_pasts(hall))
    seen = set()
    rounds = {}
    for begin, wait in enumerate(waits_by(after)):
        length = 0
        at = begin
        while wait == 0 and at not in seen:
            seen.add(at)
            at = after[at]
            length += 1
        if length > 0:
            rounds[length] = rounds.get(length, 0) + 1
    return [(length, rounds[length]) for length in sorted(rounds)]


def longest_wait(hall):
    """The greatest beat from which on some past's history goes round, and the first past that has it."""
    pasts = all_pasts(hall)
    waits = waits_by(led_to(hall, pasts))
    longest = max(waits)
    return (longest, list(pasts[waits.index(longest)]))
