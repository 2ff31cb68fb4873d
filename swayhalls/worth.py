"""The worth of a window of an even or mirrored hall, which falls at each beat that isn't yet as it comes to be."""

from swayhalls.beats import Sway, history, pulls
from swayhalls.errors import NotEven
from swayhalls.kinds import middles, mirror, word_of
from swayhalls.scales import scales_of
from swayhalls.things import is_pair


def word_with_worth(hall, held):
    """Whether the hall is "even" or "mirrored"; refused where there's no worth that falls."""
    word = word_of(hall)
    if word == "" or (word == "mirrored" and len(held) > 0):
        raise NotEven()
    return word


def own_scales(hall):
    """The scales by which strings are straight, else those by which they are turned."""
    straight = scales_of(hall)
    return scales_of(hall, turned=True) if straight is None else straight


def climb_by(steps, middle):
    """For each posture twice the sum of the weights of as many first steps."""
    climb = [0]
    for step in steps:
        climb.append(climb[-1] + 2 * (2 * step - 1 - middle))
    return climb


def climbs_of(hall):
    """For each person what climb_by tells of it."""
    return [climb_by(steps, middle) for steps, middle in zip(hall.steps(), middles(hall))]


def middled(hall, standing):
    """For each person twice its posture less its top."""
    return tuple([2 * posture - top for posture, top in zip(standing, hall.tops())])


def worth_by(hall, scales, climbs, window):
    """The window's worth by what is the same for all windows of the hall."""
    swings = [middled(hall, standing) for standing in window]
    worth = 0
    for at, standing in enumerate(window):
        worth += sum([scale * climb[posture] for scale, climb, posture in zip(scales, climbs, standing)])
        # how what's middled of all earlier ones of the window would pull is linear, as pulls are
        swung = pulls(hall, swings[:at])
        worth -= sum([scale * swing * pull for scale, swing, pull in zip(scales, swings[at], swung)])
    return worth


def worth_of(hall, window):
    """The window's worth."""
    word_with_worth(hall, ())
    return worth_by(hall, own_scales(hall), climbs_of(hall), window)


def come_again(hall, standing, word):
    """How the hall comes to stand a memory's beats and 1 behind that standing."""
    return mirror(hall, standing) if word == "mirrored" else standing


def stakes(hall, standing, swung):
    """For each person what its posture is worth to it, by its middled pull, its scale left aside."""
    swings = middled(hall, standing)
    paid = [climb[posture] for climb, posture in zip(climbs_of(hall), standing)]
    return [swing * pull - much for swing, pull, much in zip(swings, swung, paid)]


def gains(hall, window, standing):
    """For each person what it gains where that standing comes behind the window."""
    word = word_with_worth(hall, ())
    swung = [2 * pull - middle for pull, middle in zip(pulls(hall, window[1:]), middles(hall))]
    late = stakes(hall, standing, swung)
    early = stakes(hall, come_again(hall, window[0], word), swung)
    return tuple([scale * (more - less) for scale, more, less in zip(own_scales(hall), late, early)])


def worths(hall, past, many, *, held=()):
    """The worths of the first so many windows of the history."""
    word_with_worth(hall, held)
    scales, climbs = own_scales(hall), climbs_of(hall)
    standings = history(hall, past, many, held=held)
    beats = len(hall.memory())
    return [worth_by(hall, scales, climbs, standings[at:at + beats + 1]) for at in range(many)]


def unlike_beats(hall, past, *, held=()):
    """The beats that aren't as a memory's beats and 1 ahead, each with by how much the worth falls there."""
    word = word_with_worth(hall, held)
    scales, climbs = own_scales(hall), climbs_of(hall)
    sway = Sway(hall, past, held=held)
    window = sway.past()
    window.append(sway.beat())
    falls = []
    # so many beats one behind the other that aren't unlike are all that is remembered: no unlike one comes behind them
    quiet = 0
    while quiet < len(hall.memory()):
        later = window[1:] + [sway.beat()]
        if later[-1] == come_again(hall, window[0], word):
            quiet += 1
        else:
            quiet = 0
            fall = worth_by(hall, scales, climbs, window) - worth_by(hall, scales, climbs, later)
            falls.append((len(hall.memory()) - 1 + len(sway), fall))
        window = later
    return falls


def shows_falls(hall, past, thing, *, held=()):
    """Whether it's the list that unlike_beats tells."""
    falls = unlike_beats(hall, past, held=held)
    return isinstance(thing, list) and all([is_pair(one) for one in thing]) and thing == falls


def range_of(hall):
    """The pair (low, high) between which all worths lie."""
    word_with_worth(hall, ())
    scales, climbs, tops = own_scales(hall), climbs_of(hall), hall.tops()
    beats = len(hall.memory())
    weights = sum([(beats - at) * abs(weight) for at, weight in enumerate(hall.memory())])
    reaches = [sum([abs(string) * top for string, top in zip(row, tops)]) for row in hall.strings()]
    slack = weights * sum([scale * top * reach for scale, top, reach in zip(scales, tops, reaches)])
    least = sum([scale * min(climb) for scale, climb in zip(scales, climbs)])
    greatest = sum([scale * max(climb) for scale, climb in zip(scales, climbs)])
    return ((beats + 1) * least - slack, (beats + 1) * greatest + slack)


def bound_of(hall):
    """A beat from which on, whatever the past, none is unlike."""
    low, high = range_of(hall)
    return len(hall.memory()) * ((high - low) // 2)
