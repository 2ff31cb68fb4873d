"""Even and mirrored halls folded: each beat of a window is a copy of all persons, and rounds are rests."""

from swayhalls.calm import rests_of
from swayhalls.halls import Hall
from swayhalls.worth import come_again, word_with_worth


def weights_at(hall, copy):
    """For each copy the weight by which its persons pull at those of that copy, none of them turned."""
    memory = hall.memory()
    # beats of higher copies are those of the round ahead
    later = [memory[copy - other + len(memory)] for other in range(copy + 1, len(memory) + 1)]
    return [memory[copy - other - 1] for other in range(copy)] + [0] + later


def copied_strings(hall, copy, word):
    """For each person of that copy its strings."""
    weights = weights_at(hall, copy)
    if word == "mirrored":
        weights = weights[:copy] + [-weight for weight in weights[copy:]]
    return [[weight * string for weight in weights for string in row] for row in hall.strings()]


def copied_steps(hall, copy, word):
    """For each person of that copy its steps."""
    if word == "even":
        return list(hall.steps())
    later, tops = sum(weights_at(hall, copy)[copy:]), hall.tops()
    # higher copies stand as mirrors: what they'd pull at their tops is what their turned strings lack
    lacks = [later * sum([string * top for string, top in zip(row, tops)]) for row in hall.strings()]
    return [[step - lack for step in steps] for steps, lack in zip(hall.steps(), lacks)]


def folded(hall):
    """The hall of a copy of all persons for each beat remembered, and one more."""
    word = word_with_worth(hall, ())
    strings, steps = [], []
    for copy in range(len(hall.memory()) + 1):
        strings.extend(copied_strings(hall, copy, word))
        steps.extend(copied_steps(hall, copy, word))
    return Hall(strings, steps)


def as_copy(hall, standing, beat, word):
    """How a copy stands for that beat's standing, and the other way round."""
    turned_round = beat // (len(hall.memory()) + 1) % 2 == 1
    return come_again(hall, standing, word) if turned_round else standing


def fold(hall, window, beat):
    """The folded hall's standing for the window that ends with that beat."""
    word = word_with_worth(hall, ())
    copies = {}
    for number, standing in enumerate(window, start=beat - len(hall.memory())):
        copies[number % len(window)] = as_copy(hall, standing, number, word)
    return tuple([posture for copy in range(len(window)) for posture in copies[copy]])


def unfold(hall, standing, beat):
    """The window, ending with that beat, for a standing of the folded hall."""
    word = word_with_worth(hall, ())
    beats, persons = len(hall.memory()), len(hall)
    window = []
    for number in range(beat - beats, beat + 1):
        begin = number % (beats + 1) * persons
        window.append(as_copy(hall, standing[begin:begin + persons], number, word))
    return window


def rounds_of(hall):
    """The rising list of all windows, ending with the beat behind a past, that come again and again."""
    # windows rise as the standings that are cut into them do
    return [unfold(hall, rest, len(hall.memory())) for rest in rests_of(folded(hall))]
