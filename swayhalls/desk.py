"""A desk: a text of orders to a yard, and a text for each that answers it."""

from swayhalls.beats import lean
from swayhalls.errors import BadHall, BadPast, BadPosture, BadRow, Known, NoHall, NoPerson, NotEven, NotHeld
from swayhalls.firm import firm_of
from swayhalls.halltexts import figures_of, hall_in, number_in, words_of
from swayhalls.limits import MOST_BEATS, MOST_LETTERS, MOST_SHORT
from swayhalls.sorts import sorts_of
from swayhalls.worth import own_scales, worth_of
from swayhalls.yard import HANDED, Yard

LETTERS = "abcdefghijklmnopqrstuvwxyz"

# what stands behind each word but step, which is told as many steps as there are
ORDERS = {
    "build": ("name", "rows", "rows"),
    "raze": ("name",),
    "beat": ("name", "beats"),
    "hold": ("name", "number", "number"),
    "loose": ("name", "number"),
    "tie": ("name", "number", "number", "number"),
    "undo": (),
    "stand": ("name",),
    "round": ("name",),
    "bound": ("name",),
    "word": ("name",),
    "scales": ("name",),
    "worth": ("name",),
    "sorts": ("name",),
    "firm": ("name",),
}


def is_name(word):
    """Whether a yard's hall may be called so."""
    return 1 <= len(word) <= MOST_LETTERS and all([sign in LETTERS for sign in word])


def short_number_in(word):
    """The number that is so written, by at most five figures; None where none is."""
    number = number_in(word)
    return None if number is None or abs(number) > MOST_SHORT else number


def part_in(word, kind):
    """What a word of that kind tells; None where it's none."""
    if kind == "name":
        return word if is_name(word) else None
    number = short_number_in(word)
    if number is None or kind == "number":
        return number
    return number if 0 <= number and (kind == "rows" or number <= MOST_BEATS) else None


def kinds_for(words):
    """What is to stand behind the first of these words; None where no order begins so."""
    if words[0] == "step":
        return ("name",) + ("number",) * max(2, len(words) - 2)
    return ORDERS.get(words[0])


def order_in(row):
    """The order that a row tells: its word and what it's handed; None where none is so written."""
    words = row.split(" ")
    kinds = kinds_for(words)
    if kinds is None or len(words) != 1 + len(kinds):
        return None
    parts = [part_in(word, kind) for word, kind in zip(words[1:], kinds)]
    if None in parts:
        return None
    if words[0] == "step":
        return ("step", parts[0], parts[1], parts[2:])
    return (words[0], *parts)


def standing_in(row):
    """The numbers, one at least, that a row tells; None where it doesn't."""
    numbers = [short_number_in(word) for word in row.split(" ")]
    return None if None in numbers else tuple(numbers)


def hall_of_rows(rows, begin, end):
    """The hall that these rows tell."""
    try:
        return hall_in("\n".join(rows[begin:end]))
    except BadRow as fault:
        raise BadRow(begin + fault.row) from None


def past_of_rows(rows, begin, end):
    """The standings that these rows tell."""
    past = []
    for at in range(begin, end):
        standing = standing_in(rows[at])
        if standing is None:
            raise BadRow(at)
        past.append(standing)
    return past


def orders_in(rows):
    """The orders that the rows tell, one behind the other; refused at the first row that can't stand there."""
    orders = []
    at = 0
    while at < len(rows):
        order = order_in(rows[at])
        if order is None:
            raise BadRow(at)
        behind = at + 1
        if order[0] == "build":
            word, name, beats, many = order
            middle, behind = at + 1 + many, at + 1 + many + beats
            if behind > len(rows):
                raise BadRow(at)
            order = (word, name, hall_of_rows(rows, at + 1, middle), past_of_rows(rows, middle, behind))
        orders.append(order)
        at = behind
    return orders


def words_or_dash(numbers):
    """The numbers by blanks; a dash where there are none."""
    return "-" if numbers is None or len(numbers) == 0 else words_of(numbers)


def told_of_hall(word, hall, past):
    """What is told of a hall and what is remembered there."""
    if word == "stand":
        return words_of(past[-1])
    if word == "scales":
        return words_or_dash(own_scales(hall))
    if word == "worth":
        return figures_of(worth_of(hall, past + [lean(hall, past)]))
    if word == "sorts":
        return " ".join([",".join([figures_of(person) for person in persons]) for persons in sorts_of(hall)])
    return words_or_dash(firm_of(hall, past[-1]))


def told_by(yard, order):
    """What the yard tells of an order."""
    word = order[0]
    if word == "undo":
        return "done" if yard.undo() else "nothing"
    if word == "beat":
        return words_of(yard.act(order))
    if word in HANDED:
        yard.act(order)
        return "done"
    name = order[1]
    if word == "round":
        return words_or_dash(yard.round(name))
    if word == "bound":
        return figures_of(yard.bound(name))
    if word == "word":
        return yard.word(name) or "neither"
    return told_of_hall(word, yard.hall(name), yard.past(name))


def answer(yard, order):
    """What the yard tells of an order, or by which class it's refused."""
    try:
        return told_by(yard, order)
    except Known:
        return "refused Known"
    except NoHall:
        return "refused NoHall"
    except BadPast:
        return "refused BadPast"
    except BadHall:
        return "refused BadHall"
    except NoPerson:
        return "refused NoPerson"
    except BadPosture:
        return "refused BadPosture"
    except NotHeld:
        return "refused NotHeld"
    except NotEven:
        return "refused NotEven"


def answers(text):
    """The answer to each order of the text, of a new yard."""
    orders = orders_in(text.split("\n"))
    yard = Yard()
    return [answer(yard, order) for order in orders]
