"""Rounds: from which beat on a history comes again and again, and in which length."""

from swayhalls.beats import Sway, history
from swayhalls.limits import LAST_BEGIN, LONGEST_ROUND, MOST
from swayhalls.things import is_pair


def round_on(sway, *, most=MOST):
    """The least pair (b, l) of what goes on from there; None where b + l is more than most."""
    going = sway.twin()
    # what is remembered tells all that comes, so it goes round from the first past that comes again
    seen = {}
    for at in range(most + 1):
        past = tuple(going.past())
        if past in seen:
            return (seen[past], at - seen[past])
        seen[past] = at
        going.beat()
    return None


def round_of(hall, past, *, held=(), most=MOST):
    """The least pair (b, l) of that past's history; None where b + l is more than most."""
    return round_on(Sway(hall, past, held=held), most=most)


def round_at(hall, past, *, held=(), most=MOST):
    """The standings of the round that the past comes to; None where round_of tells None."""
    found = round_of(hall, past, held=held, most=most)
    if found is None:
        return None
    begin, length = found
    return history(hall, past, begin + length, held=held)[begin:begin + length]


def shows_round(hall, past, thing, *, held=()):
    """Whether it's a pair (b, l), the least or not, such that the past's history goes round so."""
    if not is_pair(thing):
        return False
    begin, length = thing
    if not 0 <= begin <= LAST_BEGIN or not 1 <= length <= LONGEST_ROUND:
        return False
    # it goes round so just from the least begin on and in what the least length divides, so both are found in time
    found = round_of(hall, past, held=held, most=begin + length)
    return found is not None and found[0] <= begin and length % found[1] == 0
