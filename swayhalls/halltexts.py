"""Halls as texts, and the halls of texts."""

from swayhalls.errors import BadRow
from swayhalls.halls import Hall, is_ladder, is_memory

# Python writes and reads no number of thousands of figures at once, so it's done by blocks of so many.
BLOCK_FIGURES = 60
BLOCK = 10 ** 60


def figures_of(number):
    """The number by plain figures, however great it is."""
    left = abs(number)
    blocks = []
    while left >= BLOCK:
        left, low = divmod(left, BLOCK)
        blocks.append(str(low).zfill(BLOCK_FIGURES))
    blocks.append(str(left))
    sign = "-" if number < 0 else ""
    return sign + "".join(blocks[::-1])


def worth_of_figures(figures):
    """The number that these figures are, however many they are."""
    lacking = -len(figures) % BLOCK_FIGURES
    padded = "0" * lacking + figures
    number = 0
    for at in range(0, len(padded), BLOCK_FIGURES):
        number = number * BLOCK + int(padded[at:at + BLOCK_FIGURES])
    return number


def are_figures(text):
    """Whether it's figures only, one at least."""
    # isdigit takes signs of other scripts too
    return text != "" and all([sign in "0123456789" for sign in text])


def number_in(word):
    """The number that is so written; None where none is."""
    below = word.startswith("-")
    figures = word[1:] if below else word
    if not are_figures(figures) or (figures.startswith("0") and word != "0"):
        return None
    return -worth_of_figures(figures) if below else worth_of_figures(figures)


def numbers_in(words):
    """The numbers that are so written, in order; None where a word is none."""
    numbers = [number_in(word) for word in words]
    return None if None in numbers else numbers


def words_of(numbers):
    """The numbers, parted by blanks."""
    return " ".join([figures_of(number) for number in numbers])


def hall_text(hall):
    """The hall's text: how many persons, a row for each, and the memory."""
    rows = ["hall " + figures_of(len(hall))]
    for strings, steps in zip(hall.strings(), hall.steps()):
        rows.append(words_of(strings) + " : " + words_of(steps))
    rows.append("memory " + words_of(hall.memory()))
    return "\n".join(rows)


def many_in(row):
    """How many persons a text's first row tells; None where it's no such row."""
    words = row.split(" ")
    if len(words) != 2 or words[0] != "hall":
        return None
    many = number_in(words[1])
    return None if many is None or many < 1 else many


def person_in(row, many):
    """The strings and the steps that a row tells of one of so many persons; None where it's no such row."""
    words = row.split(" ")
    # many may be greater than any place in a list
    if len(words) <= many or words[many] != ":":
        return None
    strings, steps = numbers_in(words[:many]), numbers_in(words[many + 1:])
    if strings is None or steps is None or not is_ladder(steps):
        return None
    return (strings, steps)


def memory_in(row):
    """The weights that a text's last row tells; None where it's no such row."""
    words = row.split(" ")
    weights = numbers_in(words[1:])
    return weights if words[0] == "memory" and is_memory(weights) else None


def persons_in(rows, many):
    """What these rows tell of so many persons, one behind the other; refused at the first that can't stand there."""
    persons = []
    for at, row in enumerate(rows[1:many + 1], start=1):
        person = person_in(row, many)
        if person is None:
            raise BadRow(at)
        persons.append(person)
    return persons


def hall_in(text):
    """The hall of just this text."""
    rows = text.split("\n")
    many = many_in(rows[0])
    if many is None:
        raise BadRow(0)
    persons = persons_in(rows, many)
    if len(rows) < many + 2:
        raise BadRow(len(rows))
    memory = memory_in(rows[many + 1])
    if memory is None:
        raise BadRow(many + 1)
    if len(rows) > many + 2:
        raise BadRow(many + 2)
    return Hall([strings for strings, steps in persons], [steps for strings, steps in persons], memory)
