"""Which halls are even, which are mirrored."""

from swayhalls.scales import scales_of


def memory_word(hall):
    """Whether the memory is "straight" or "turned"; "" of neither."""
    ahead, back = hall.memory(), hall.memory()[::-1]
    if ahead == back:
        return "straight"
    if ahead == tuple([-weight for weight in back]):
        return "turned"
    return ""


def middles(hall):
    """For each person its pull were all to stand, at all beats, at their tops."""
    weight, tops = sum(hall.memory()), hall.tops()
    return tuple([weight * sum([string * top for string, top in zip(row, tops)]) for row in hall.strings()])


def is_balanced(hall, person):
    """Whether each step of that person and the one opposite are together its middle and 1."""
    steps, middle = hall.steps()[person], middles(hall)[person]
    return all([one + other == middle + 1 for one, other in zip(steps, steps[::-1])])


def word_of(hall):
    """Whether the hall is "even" or "mirrored"; "" of neither."""
    memory = memory_word(hall)
    if memory == "":
        return ""
    turned = memory == "turned"
    if scales_of(hall, turned=turned) is not None:
        return "even"
    if scales_of(hall, turned=not turned) is None:
        return ""
    return "mirrored" if all([is_balanced(hall, person) for person in range(len(hall))]) else ""


def mirror(hall, standing):
    """The standing of each one's top less its posture."""
    return tuple([top - posture for top, posture in zip(hall.tops(), standing)])
