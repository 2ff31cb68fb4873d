import re
import unittest
from random import Random

from swayhalls.beats import lean
from swayhalls.desk import answers
from swayhalls.errors import (
    BadHall, BadPast, BadPosture, BadRow, Known, NoHall, NoPerson, NotEven, NotHeld,
)
from swayhalls.firm import firm_of
from swayhalls.halls import Hall
from swayhalls.halltexts import hall_text
from swayhalls.scales import scales_of
from swayhalls.sorts import sorts_of
from swayhalls.worth import worth_of
from swayhalls.yard import Yard
from tests.draws import draw_even, draw_hall, draw_mirrored, draw_past, draw_steps

REFUSALS = (Known, NoHall, BadPast, BadHall, NoPerson, BadPosture, NotHeld, NotEven)
NUMBER = r"(?:0|-?[1-9][0-9]{0,4})"
COUNT = r"(?:0|[1-9][0-9]{0,4})"
MANY = r"(?:0|[1-9][0-9]{0,2}|1[0-9]{3}|2000)"
ANY = r"(?:0|-?[1-9][0-9]*)"
NAME = r"[a-z]{1,6}"
ORDER = re.compile("|".join([
    rf"(?:raze|stand|round|bound|word|scales|worth|sorts|firm) {NAME}", "undo", rf"beat {NAME} {MANY}",
    rf"hold {NAME} {NUMBER} {NUMBER}", rf"loose {NAME} {NUMBER}", rf"tie {NAME} {NUMBER} {NUMBER} {NUMBER}",
    rf"step {NAME} {NUMBER}(?: {NUMBER})+", rf"build {NAME} {COUNT} {COUNT}"]))
STANDING = re.compile(rf"{NUMBER}(?: {NUMBER})*")
SIGNS = "".join(chr(code) for code in range(32, 127)) + "\n"

PAIR = "hall 2\n0 2 : 2\n3 0 : 1 4\nmemory 1"
BUILD = "build a 1 4\n" + PAIR + "\n1 2"


def bad_hall_row(rows):
    """The first of these rows that can't stand in a hall's text, how many they are where one lacks; else None."""
    found = re.fullmatch(r"hall ([1-9][0-9]*)", rows[0]) if rows else None
    if not found:
        return 0
    many = int(found[1])
    for at in range(1, min(many, len(rows) - 1) + 1):
        strings, colon, steps = rows[at].partition(" : ")
        numbers = steps.split(" ")
        if not colon or not all(re.fullmatch(ANY, word) for word in strings.split(" ") + numbers):
            return at
        steps = [int(word) for word in numbers]
        if len(strings.split(" ")) != many or len(steps) > 4 or sorted(set(steps)) != steps:
            return at
    if len(rows) < many + 2:
        return len(rows)
    weights = rows[many + 1].split(" ")
    if weights[0] != "memory" or not all(re.fullmatch(ANY, word) for word in weights[1:]):
        return many + 1
    if not 2 <= len(weights) <= 6 or weights[-1] == "0":
        return many + 1
    return many + 2 if len(rows) > many + 2 else None


def bad_row(text):
    """The first row that isn't so written or can't stand there; None where there's none."""
    rows, at = text.split("\n"), 0
    while at < len(rows):
        if not ORDER.fullmatch(rows[at]):
            return at
        behind = at + 1
        if rows[at].startswith("build "):
            beats, many = map(int, rows[at].split(" ")[2:])
            if beats + many > len(rows) - at - 1:
                return at
            bad = bad_hall_row(rows[at + 1:at + 1 + many])
            if bad is not None:
                return at + 1 + bad
            behind = at + 1 + many + beats
            for place in range(at + 1 + many, behind):
                if not STANDING.fullmatch(rows[place]):
                    return place
        at = behind
    return None


def blanks(numbers):
    return " ".join(map(str, numbers))


def asked(yard, word, name):
    hall, past = yard.hall(name), yard.past(name)
    if word == "stand":
        return blanks(past[-1])
    if word == "round":
        return "-" if yard.round(name) is None else "{} {}".format(*yard.round(name))
    if word == "bound":
        return str(yard.bound(name))
    if word == "word":
        return yard.word(name) if yard.word(name) != "" else "neither"
    if word == "scales":
        straight = scales_of(hall)
        told = scales_of(hall, turned=True) if straight is None else straight
        return "-" if told is None else blanks(told)
    if word == "worth":
        return str(worth_of(hall, past + [lean(hall, past)]))
    if word == "sorts":
        return " ".join(",".join(map(str, persons)) for persons in sorts_of(hall))
    return blanks(firm_of(hall, past[-1])) if firm_of(hall, past[-1]) else "-"


def by_yard(yard, order):
    """What is told of an order: a tuple of its word and what it's handed."""
    word = order[0]
    try:
        if word == "undo":
            return "done" if yard.undo() else "nothing"
        if word in ("build", "raze", "beat", "hold", "loose", "tie", "step"):
            told = getattr(yard, word)(*order[1:])
            return "done" if told is None else blanks(told)
        return asked(yard, word, order[1])
    except REFUSALS as refusal:
        return "refused " + type(refusal).__name__


def order_text(order):
    if order[0] == "build":
        _, name, hall, past = order
        many = len(hall) + 2
        return "\n".join([f"build {name} {len(past)} {many}", hall_text(hall), *map(blanks, past)])
    if order[0] == "step":
        return blanks(order[:3]) + " " + blanks(order[3])
    return blanks(order)


def draw_build(draw):
    hall = draw.choice((draw_hall, draw_even, draw_mirrored))(draw, draw.randint(2, 3))
    past = draw_past(draw, hall)
    fault = draw.random()
    if fault < 0.1:
        past = past[1:]
    elif fault < 0.2:
        past = past + [(0,) * len(hall)]
    elif fault < 0.3:
        past = past[:-1] + [draw.choice(((9,) * len(hall), (-1,) * len(hall), (0,), (0,) * 5))]
    return hall, past


def draw_order(draw):
    word = draw.choice(("build", "build", "raze", "beat", "beat", "hold", "hold", "hold", "loose", "loose", "loose", "tie",
                        "step", "step", "undo", "stand", "round", "bound", "word", "scales", "worth", "sorts", "firm"))
    name = draw.choice(("a", "a", "b", "zzzzzz"))
    if word == "undo":
        return (word,)
    if word == "build":
        return (word, name, *draw_build(draw))
    if word == "beat":
        return (word, name, draw.choice((0, 1, 2, 30)))
    person = draw.choice((0, 0, 1, 1, 2, 3, -1))
    handed = {"hold": (person, draw.choice((0, 0, 1, 1, 2, 3, -1, 99999))), "loose": (person,),
              "tie": (person, draw.choice((0, 1, 2, 9)), draw.randint(-9, 9)),
              "step": (person, draw.choice((draw_steps(draw, draw.randint(1, 4), 9), [2, 1], [1, 2, 3, 4, 5])))}
    return (word, name, *handed.get(word, ()))


class Told(unittest.TestCase):
    def test_by_hand(self):
        text = "\n".join([BUILD, "stand a", "beat a 3", "round a", "bound a", "word a", "scales a", "worth a", "sorts a",
                          "firm a", "hold a 0 0", "beat a 1", "beat a 1", "loose a 0", "tie a 0 1 -7", "word a",
                          "step a 1 3", "undo", "undo", "raze a", "undo", "stand a"])
        self.assertEqual(answers(text), [
            "done", "1 2", "1 1", "0 1", "46", "even", "3 2", "-28", "0 1", "0 1", "done", "0 1", "0 0", "done", "done",
            "even", "done", "done", "done", "done", "done", "0 0"])
        self.assertEqual(answers(text="undo"), ["nothing"])
        self.assertEqual(answers("undo\nundo"), ["nothing", "nothing"])

    def test_dashes_and_the_bare_word(self):
        text = "build b 1 4\nhall 2\n0 1 : 1\n0 0 : 0\nmemory 1\n1 0\nword b\nscales b\nworth b\nbound b\nfirm b\nsorts b"
        self.assertEqual(answers(text), ["done", "neither", "-", "refused NotEven", "refused NotEven", "-", "0 1"])

    def test_turned_scales_and_sorts_by_commas(self):
        text = ("build c 1 6\nhall 4\n0 2 0 0 : 1\n-3 0 0 0 : 2\n0 0 0 2 : 1\n0 0 -3 0 : 2\nmemory 1\n0 0 0 0\n"
                "scales c\nsorts c\nfirm c\nword c")
        self.assertEqual(answers(text), ["done", "3 2 3 2", "0,2 1,3", "0 1 2 3", "neither"])
        # who never stands as told is in no firm group, nor who stands so by that one alone
        text = text.replace("-3 0 0 0 : 2", "-3 0 0 0 : -9").replace("0 0 0 0\nscales", "1 0 0 0\nscales")
        self.assertEqual(answers(text), ["done", "3 2 3 2", "0 1 2 3", "2 3", "neither"])

    def test_a_round_that_takes_too_long(self):
        sizes = (3, 4, 5, 7)
        rows, standing, first = [], [], 0
        for size in sizes:
            for at in range(size):
                row = [0] * sum(sizes)
                row[first + (at - 1) % size] = 1
                rows.append(blanks(row) + " : 1")
                standing.append(int(at == 0))
            first += size
        text = "\n".join([f"build a 1 {len(rows) + 2}", f"hall {len(rows)}", *rows, "memory 1", blanks(standing), "round a"])
        self.assertEqual(answers(text), ["done", "-"])

    def test_refusals_as_texts(self):
        text = "\n".join([BUILD, BUILD, "build b 2 4\n" + PAIR + "\n0 0\n0 0", "build b 1 4\n" + PAIR + "\n0 9",
                          "build b 0 4\n" + PAIR, "build b 1 4\n" + PAIR + "\n0 0 0", "raze z", "beat z 1", "hold z 0 0",
                          "loose z 0", "tie z 0 0 0", "step z 0 0", "stand z", "round z", "bound z", "word z", "scales z",
                          "worth z", "sorts z", "firm z", "hold a 2 0", "hold a 0 2", "hold a 0 -1", "loose a 2",
                          "loose a 0", "tie a 5 0 1", "tie a 0 5 1", "step a 2 1", "step a 0 2 1", "step a 0 1 1",
                          "step a 0 1 2 3 4 5", "undo", "undo"])
        self.assertEqual(answers(text), ["done", "refused Known"] + ["refused BadPast"] * 4 + ["refused NoHall"] * 14 + [
            "refused NoPerson", "refused BadPosture", "refused BadPosture", "refused NoPerson", "refused NotHeld",
            "refused NoPerson", "refused NoPerson", "refused NoPerson", "refused BadHall", "refused BadHall",
            "refused BadHall", "done", "nothing"])

    def test_known_goes_ahead_of_bad_past(self):
        self.assertEqual(answers(BUILD + "\nbuild a 0 4\n" + PAIR), ["done", "refused Known"])

    def test_great_numbers_in_a_halls_rows(self):
        great = "9" * 5000
        text = f"build a 1 3\nhall 1\n{great} : -{great} {great}\nmemory 1\n1\nbeat a 1\nscales a\nworth a\nbound a\nstand a"
        told = answers(text)
        self.assertEqual(told[:3], ["done", "2", "1"])
        self.assertTrue(all(len(told[at]) > 4999 and set(told[at]) <= set("-0123456789") for at in (3, 4)))
        self.assertEqual(told[5], "2")

    def test_worth_with_nobody_held(self):
        text = BUILD + "\nhold a 0 0\nbeat a 1\nworth a"
        hall = Hall([[0, 2], [3, 0]], [[2], [1, 4]])
        # (0, 1) stands then; held or not, the next is by lean alone
        self.assertEqual(answers(text)[-1], str(worth_of(hall, [(0, 1), lean(hall, [(0, 1)])])))
        self.assertEqual(lean(hall, [(0, 1)]), (1, 0))

    def test_against_a_yard(self):
        draw, seen = Random(220), set()
        for _ in range(150):
            orders = [draw_order(draw) for _ in range(draw.randint(1, 40))]
            yard = Yard()
            told = [by_yard(yard, order) for order in orders]
            text = "\n".join(map(order_text, orders))
            self.assertEqual(answers(text), told)
            self.assertEqual(answers(text=text), told)
            self.assertIsNone(bad_row(text))
            seen.update((order[0], one if one.startswith("refused") else "-" if one == "-" else "told")
                        for order, one in zip(orders, told))
        words = ("raze", "beat", "hold", "loose", "tie", "step", "stand", "round", "bound", "word", "scales", "worth",
                 "sorts", "firm")
        self.assertGreaterEqual(seen, {
            *((word, "told") for word in words + ("build", "undo")), *((word, "refused NoHall") for word in words),
            ("build", "refused Known"), ("build", "refused BadPast"), ("hold", "refused NoPerson"),
            ("hold", "refused BadPosture"), ("loose", "refused NotHeld"), ("loose", "refused NoPerson"),
            ("step", "refused BadHall"), ("step", "refused NoPerson"), ("tie", "refused NoPerson"),
            ("bound", "refused NotEven"), ("worth", "refused NotEven"), ("scales", "-"),
            ("firm", "-")})

    def test_each_desk_has_a_yard_of_its_own(self):
        self.assertEqual(answers(BUILD), ["done"])
        self.assertEqual(answers("stand a"), ["refused NoHall"])
        told = answers(BUILD)
        told.clear()
        self.assertEqual(answers(BUILD), ["done"])
        self.assertIs(type(answers(BUILD)), list)


class Rows(unittest.TestCase):
    def check(self, row, text):
        self.assertEqual(bad_row(text), row, text)
        with self.assertRaises(BadRow) as caught:
            answers(text)
        self.assertEqual(caught.exception.row, row, text)

    def test_single_rows(self):
        for text in ("", " ", "undo ", " undo", "undo a", "Undo", "redo", "raze", "raze ", "raze A", "raze a b", "raze a1",
                     "raze abcdefg", "raze  a", "raze a ", "beat a", "beat a -1", "beat a 2001", "beat a 99999", "beat a 01",
                     "beat a +1", "beat a 1.0", "beat a 1 1", "beat 1 a", "hold a 0", "hold a 0 0 0", "hold a 0 x",
                     "hold a 00 0", "hold a -0 0", "hold a 0 100000", "hold a 0 -100000", "loose a", "loose a 0 0",
                     "loose a 123456", "tie a 0 1", "tie a 0 1 2 3", "tie a 0 1 -", "step a", "step a 0", "step a 0 ",
                     "step a 0 1  2", "step a 0 1 x", "step a 0 100000", "step a x 1", "step 0 1", "stand", "stand a 1",
                     "round a 1", "bound", "word", "scales a a", "worth", "sorts a,b", "firm a\t", "build", "build a",
                     "build a 1", "build a 1 4", "build a -1 4", "build a 1 -4", "build a 1 4 5", "build a 1 0",
                     "build a 0 1", "build a 99999 99999", "build a 100000 4", "build A 0 0", "stand\ta", "stand a\r",
                     "hold a 0 1e3", "hold a 0 0x1", "hold a 0 1_0"):
            self.check(0, text)
            self.check(1, "undo\n" + text)
            self.check(6, BUILD + "\n" + text)

    def test_numbers_at_the_bounds(self):
        text = BUILD + "\nbeat a 2000\nbeat a 0\nhold a 99999 0\nhold a 0 -99999\ntie a 0 1 99999\nstep a 0 -99999 99999"
        self.assertEqual(answers(text), ["done", "1 1", "1 1", "refused NoPerson", "refused BadPosture", "done", "done"])
        self.assertEqual(answers("stand a\nstand zzzzzz"), ["refused NoHall"] * 2)

    def test_builds_whose_rows_are_too_few(self):
        self.check(0, "build a 1 4\n" + PAIR)
        self.check(0, "build a 2 4\n" + PAIR + "\n1 2")
        self.check(0, "build a 1 5\n" + PAIR + "\n1 2")
        self.check(2, "undo\nundo\nbuild a 1 4\n" + PAIR)
        # so few are left, whatever they are
        self.check(0, "build a 9 4\nnothing of a hall")
        self.check(0, "build a 0 4\nhall 2\n0 2 : 2\n3 0 : 1 4")

    def test_builds_whose_rows_are_too_many(self):
        # the standing's row is one of the hall's
        self.check(5, "build a 1 5\n" + PAIR + "\n1 2\n1 2")
        self.check(5, "build a 0 5\n" + PAIR + "\n1 2")
        # what is left behind the standings is no order
        self.check(6, BUILD + "\n1 2")
        self.check(5, "build a 0 4\n" + PAIR + "\n1 2")

    def test_builds_that_lack_a_row_of_the_hall(self):
        self.check(4, "build a 2 3\n" + PAIR + "\n1 2")
        self.check(2, "build a 0 1\nhall 2\n0 2 : 2\n3 0 : 1 4\nmemory 1")
        self.check(1, "build a 0 0")
        self.check(1, "build a 0 0\nundo")
        self.check(1, "build a 5 0\n" + PAIR + "\n1 2")
        self.check(4, "build a 0 3\nhall 2\n0 2 : 2\n3 0 : 1 4")

    def test_builds_at_fault(self):
        rows = BUILD.split("\n")
        for at, wrong in ((1, ("hall 0", "hall", "hall 3", "hall 02", "Hall 2", "hall 2 ", "")),
                          (2, ("0 2 :", "0 2 2", "0 : 2", "0 2 0 : 2", "0 2 : 2 2", "0 2 : 3 2", "0 2 : 1 2 3 4 5", ": 2",
                               "0 02 : 2", "0 2  : 2", "0 2 : 2 ", "")),
                          (3, ("3 0 : 4 1", "3 -0 : 1", "x 0 : 1", "memory 1")),
                          (4, ("memory", "memory 0", "memory 1 0", "memory 1 1 1 1 1 1", "memor 1", "memory 1 ", "1 2")),
                          (5, ("", " ", "1 2 ", " 1 2", "1  2", "1 x", "1,2", "01 2", "1 -0", "100000 0", "1 2 : 3",
                               "undo", "-"))):
            for row in wrong:
                text = "\n".join(rows[:at] + [row] + rows[at + 1:])
                told = 2 if at == 1 and row == "hall 3" else at
                self.check(told, text)
                self.check(told + 1, "undo\n" + text + "\nundo")

    def test_the_first_of_several(self):
        self.check(1, "undo\nrazed\nraze a b\n")
        self.check(2, "build a 1 4\nhall 2\nx\nx\nmemory 0\nx")
        self.check(4, BUILD.replace("memory 1", "memory 0").replace("\n1 2", "\nx y"))
        self.check(6, BUILD + "\nbuild b 1 9\n" + PAIR)

    def test_ahead_of_all(self):
        self.check(1, "raze z\n" + "x")
        self.check(7, BUILD + "\n" + "raze z\nbeat a 2001")

    def test_line_feeds(self):
        self.check(1, "undo\n")
        self.check(0, "\nundo")
        self.check(1, "undo\n\nundo")
        self.check(6, BUILD + "\n")

    def test_a_sign_put_in_left_out_changed_at_any_place(self):
        draw, bad, good = Random(221), 0, 0
        for at in range(60):
            orders = [draw_order(draw) for _ in range(draw.randint(1, 6))]
            text = "\n".join(map(order_text, orders))
            for _ in range(60):
                place, sign = draw.randrange(len(text) + 1), draw.choice(SIGNS + "0123456789 -\n:a" * 4)
                for changed in (text[:place] + sign + text[place:], text[:place] + text[place + 1:],
                                text[:place] + sign + text[place + 1:]):
                    row = bad_row(changed)
                    if row is None:
                        self.assertIs(type(answers(changed)), list)
                        good += 1
                    else:
                        self.check(row, changed)
                        bad += 1
        self.assertGreater(bad, 4000)
        self.assertGreater(good, 500)

    def test_rows_left_out_doubled_and_swapped(self):
        draw = Random(222)
        for _ in range(200):
            rows = "\n".join(order_text(draw_order(draw)) for _ in range(draw.randint(1, 5))).split("\n")
            at, other = draw.randrange(len(rows)), draw.randrange(len(rows))
            swapped = list(rows)
            swapped[at], swapped[other] = rows[other], rows[at]
            for changed in (rows[:at] + rows[at + 1:], rows[:at + 1] + rows[at:], swapped):
                text = "\n".join(changed)
                row = bad_row(text)
                if row is None:
                    self.assertIs(type(answers(text)), list)
                else:
                    self.check(row, text)


if __name__ == "__main__":
    unittest.main()
