"""The refusals of the package.

The words told with a number are the same whatever the number is: Python writes no number of thousands of
figures, and a refusal must not fail by what it refuses.
"""


class BadHall(ValueError):
    """What was handed in makes no hall: part is "strings", "steps" or "memory"."""

    def __init__(self, part):
        ValueError.__init__(self, f"no hall has such {part}")
        self.part = part


class BadRow(ValueError):
    """A text's row isn't so written, or can't stand there."""

    def __init__(self, row):
        ValueError.__init__(self, "such a row can't stand there")
        self.row = row


class BadPast(ValueError):
    """That is no past of the hall."""


class BadPosture(ValueError):
    """The person hasn't that posture."""

    def __init__(self, posture):
        ValueError.__init__(self, "the person has no such posture")
        self.posture = posture


class BadDeed(ValueError):
    """What stands at that place of a row of deeds is none."""

    def __init__(self, at):
        ValueError.__init__(self, "no such deed can be done")
        self.at = at


class Unlike(ValueError):
    """The halls' memories are unlike."""


class NoHall(KeyError):
    """The yard has no hall of that name."""

    def __init__(self, name):
        KeyError.__init__(self, f"no hall is called {name}")
        self.name = name


class NotHeld(KeyError):
    """Nobody holds that person."""

    def __init__(self, person):
        KeyError.__init__(self, "that person isn't held")
        self.person = person


class NoPerson(IndexError):
    """The hall hasn't that person."""

    def __init__(self, person):
        IndexError.__init__(self, "the hall has no such person")
        self.person = person


class Known(RuntimeError):
    """The yard has a hall of that name already."""

    def __init__(self, name):
        RuntimeError.__init__(self, f"a hall is called {name} already")
        self.name = name


class NotEven(RuntimeError):
    """The hall is neither even nor mirrored, or is mirrored and somebody is held."""


class NotCalm(RuntimeError):
    """The hall isn't calm."""


class NotSorts(RuntimeError):
    """These lists are no sorts of the hall."""


class NotLike(RuntimeError):
    """The persons of the list of that number don't stand alike."""

    def __init__(self, at):
        RuntimeError.__init__(self, "persons of one list don't stand alike")
        self.at = at


class NotWilling(RuntimeError):
    """The hall isn't willing."""


class Alone(RuntimeError):
    """There is no other person who could stay."""


class TooMany(OverflowError):
    """There are more than can be looked at: many tells how many."""

    def __init__(self, many):
        OverflowError.__init__(self, "there are too many to look at")
        self.many = many
