"""A yard: halls that are kept swaying by names, over many deeds, which can be undone."""

from swayhalls.beats import Sway
from swayhalls.errors import BadDeed, BadPast, Known, NoHall
from swayhalls.halls import is_past
from swayhalls.kinds import word_of
from swayhalls.over import stepped, tied
from swayhalls.rounds import round_on
from swayhalls.worth import bound_of

# the deeds that a row of them may have, and how many things each is handed
HANDED = {"build": 3, "raze": 1, "beat": 2, "hold": 3, "loose": 2, "tie": 4, "step": 3}


def is_deed(thing):
    """Whether it's a tuple of a deed's word and as many things as that one is handed."""
    if not isinstance(thing, tuple) or len(thing) == 0 or not isinstance(thing[0], str):
        return False
    return thing[0] in HANDED and len(thing) == 1 + HANDED[thing[0]]


class Yard:
    """Sways by names. A Sway that was laid here is never changed any more: what comes of a deed is another one."""

    def __init__(self):
        self.sways = {}
        # for each deed that can be undone its name, and the Sway ahead of it, None where there was none
        self.undoable = []
        self.trail = []
        self.doing = 0

    def sway_of(self, name):
        """The Sway of that name."""
        if name not in self.sways:
            raise NoHall(name)
        return self.sways[name]

    def lay(self, name, sway):
        """That name has this Sway, or none any more."""
        if sway is None:
            del self.sways[name]
        else:
            self.sways[name] = sway

    def change(self, name, sway):
        """A deed is done: that name has this Sway from now on, None where there's none."""
        self.undoable.append((name, self.sways.get(name)))
        self.lay(name, sway)

    def build(self, name, hall, past):
        """A hall that goes on from that past."""
        if name in self.sways:
            raise Known(name)
        if not is_past(hall, list(past) if isinstance(past, tuple) else past):
            raise BadPast()
        self.change(name, Sway(hall, past))

    def raze(self, name):
        """The hall is gone."""
        self.sway_of(name)
        self.change(name, None)

    def beat(self, name, many):
        """So many beats come; told is the last standing then."""
        sway = self.sway_of(name).twin()
        standing = sway.beat(many)
        self.change(name, sway)
        return standing

    def hold(self, name, person, posture):
        """From now on that person stands so."""
        sway = self.sway_of(name).twin()
        sway.hold(person, posture)
        self.change(name, sway)

    def loose(self, name, person):
        """From now on that person leans again."""
        sway = self.sway_of(name).twin()
        sway.loose(person)
        self.change(name, sway)

    def tie(self, name, one, other, weight):
        """From now on both pull at each other by weight."""
        sway = self.sway_of(name)
        self.change(name, sway.moved_to(tied(sway.home, one, other, weight)))

    def step(self, name, person, steps):
        """From now on that person has these steps."""
        sway = self.sway_of(name)
        self.change(name, sway.moved_to(stepped(sway.home, person, steps)))

    def undo(self):
        """The last deed that isn't undone is as if it had never been; told is whether there was one."""
        if len(self.undoable) == 0:
            return False
        name, sway = self.undoable.pop()
        self.lay(name, sway)
        return True

    def names(self):
        """The rising list of names."""
        return sorted(self.sways)

    def hall(self, name):
        """The hall of that name."""
        return self.sway_of(name).home

    def past(self, name):
        """What is remembered there."""
        return self.sway_of(name).past()

    def held(self, name):
        """The rising list of those held there."""
        return self.sway_of(name).held()

    def beats(self, name):
        """How many beats have come there."""
        return len(self.sway_of(name))

    def round(self, name):
        """The round to which it comes there."""
        return round_on(self.sway_of(name))

    def bound(self, name):
        """The beat from which on that hall goes round, whatever the past."""
        return bound_of(self.hall(name))

    def word(self, name):
        """Whether that hall is "even" or "mirrored"; "" of neither."""
        return word_of(self.hall(name))

    def twin(self):
        """A yard of its own, the same."""
        other = Yard()
        other.sways = dict(self.sways)
        other.undoable = list(self.undoable)
        other.trail = list(self.trail)
        return other

    def act(self, deed):
        """The deed that a tuple tells, and what comes of it."""
        word, *handed = deed
        if word == "build":
            return self.build(*handed)
        if word == "raze":
            return self.raze(*handed)
        if word == "beat":
            return self.beat(*handed)
        if word == "hold":
            return self.hold(*handed)
        if word == "loose":
            return self.loose(*handed)
        if word == "tie":
            return self.tie(*handed)
        return self.step(*handed)

    def do(self, deeds, *, whole=True):
        """These deeds, one behind the other, up to one that is refused; whole: then none of them."""
        for at, deed in enumerate(deeds):
            if not is_deed(deed):
                raise BadDeed(at)
        sways = dict(self.sways)
        undoable = list(self.undoable)
        # None where nothing is to be taken back
        amiss = True if whole else None
        told = []
        done = 0
        self.trail.append(("in", len(deeds)))
        self.doing += 1
        try:
            for deed in deeds:
                told.append(self.act(deed))
                self.trail.append(deed[0])
                done += 1
            amiss = None
        finally:
            self.doing -= 1
            self.trail.append(("out", done))
            if amiss is not None:
                self.sways, self.undoable = sways, undoable
        return told

    def marks(self):
        """For each row of deeds its begin, the words of those that were done, and its end."""
        return list(self.trail)

    def is_open(self):
        """Whether no row of deeds is at work."""
        return self.doing == 0

    def counts(self):
        """For each name how many beats have come."""
        return {name: len(self.sways[name]) for name in self.sways}

    def __eq__(self, other):
        return isinstance(other, Yard) and self.sways == other.sways and self.counts() == other.counts()

    def __len__(self):
        return len(self.sways)
