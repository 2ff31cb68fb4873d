"""Halls, and the standings and pasts that they have."""

from swayhalls.errors import BadHall
from swayhalls.limits import MOST_STEPS, MOST_WEIGHTS
from swayhalls.things import are_numbers, are_rows, does_rise, is_number


def are_strings(thing):
    """Whether it's as many rows as each row has numbers, one at least."""
    return are_rows(thing) and len(thing) > 0 and all([len(row) == len(thing) for row in thing])


def is_ladder(numbers):
    """Whether one person can have these steps."""
    return 1 <= len(numbers) <= MOST_STEPS and does_rise(numbers)


def are_steps(thing, persons):
    """Whether it's the steps of each of so many persons."""
    return are_rows(thing) and len(thing) == persons and all([is_ladder(row) for row in thing])


def is_memory(thing):
    """Whether a hall can remember by these weights."""
    return are_numbers(thing) and 1 <= len(thing) <= MOST_WEIGHTS and thing[-1] != 0


def as_tuples(rows):
    """The same rows, so that a change of the ones handed in isn't seen."""
    return tuple([tuple(row) for row in rows])


class Hall:
    """Persons, the strings between them, their steps, and how they weigh what they remember."""

    def __init__(self, strings, steps, memory=(1,)):
        if not are_strings(strings):
            raise BadHall("strings")
        if not are_steps(steps, len(strings)):
            raise BadHall("steps")
        if not is_memory(memory):
            raise BadHall("memory")
        self.string_rows = as_tuples(strings)
        self.step_rows = as_tuples(steps)
        self.weights = tuple(memory)

    def strings(self):
        """For each person a row: at place j how much j pulls at it."""
        return self.string_rows

    def steps(self):
        """For each person its steps, rising."""
        return self.step_rows

    def memory(self):
        """The weights of the last beat, the one ahead of it, and so on."""
        return self.weights

    def tops(self):
        """For each person its greatest posture."""
        return tuple([len(row) for row in self.step_rows])

    def __eq__(self, other):
        return (isinstance(other, Hall) and self.string_rows == other.string_rows
                and self.step_rows == other.step_rows and self.weights == other.weights)

    def __len__(self):
        return len(self.string_rows)

    def __repr__(self):
        return f"Hall({len(self.string_rows)} persons, {len(self.weights)} beats)"


def is_person(hall, thing):
    """Whether it's the number of one of the hall's persons."""
    return is_number(thing) and 0 <= thing < len(hall)


def is_posture(hall, person, thing):
    """Whether it's a posture of that person."""
    return is_number(thing) and 0 <= thing <= hall.tops()[person]


def is_standing(hall, thing):
    """Whether it's a tuple of a posture of each person."""
    if not isinstance(thing, tuple) or len(thing) != len(hall):
        return False
    return all([is_posture(hall, person, one) for person, one in enumerate(thing)])


def is_past(hall, thing):
    """Whether it's a list of as many standings as beats are remembered."""
    if not isinstance(thing, list) or len(thing) != len(hall.memory()):
        return False
    return all([is_standing(hall, one) for one in thing])
