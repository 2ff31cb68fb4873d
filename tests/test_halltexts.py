import unittest

from swayhalls.errors import BadRow
from swayhalls.halls import Hall
from swayhalls.halltexts import hall_in, hall_text
from tests.draws import draws
from tests.samples import parts

GREAT = 10 ** 400 + 7
TEXTS = [
    ("hall 1\n0 : 1\nmemory 1", Hall([[0]], [[1]])),
    ("hall 1\n-99 : -9999 -1 0 9999\nmemory 9 0 -9 0 -1", Hall([[-99]], [[-9999, -1, 0, 9999]], [9, 0, -9, 0, -1])),
    ("hall 2\n0 3 : 1\n-2 0 : -4 0\nmemory 1 1", Hall([[0, 3], [-2, 0]], [[1], [-4, 0]], [1, 1])),
    ("hall 3\n0 10 -20 : 100 101\n30 0 0 : -1\n-5 5 7 : 0 1 2\nmemory -3",
     Hall([[0, 10, -20], [30, 0, 0], [-5, 5, 7]], [[100, 101], [-1], [0, 1, 2]], [-3])),
    ("hall 4\n1 0 0 0 : 1\n0 1 0 0 : 1\n0 0 1 0 : 1\n0 0 0 1 : 1\nmemory 0 2",
     Hall([[1, 0, 0, 0], [0, 1, 0, 0], [0, 0, 1, 0], [0, 0, 0, 1]], [[1]] * 4, [0, 2])),
    ("hall 5\n" + "0 -1 2 -3 4 : -7 8\n" * 5 + "memory 1 2 3 4 5",
     Hall([[0, -1, 2, -3, 4]] * 5, [[-7, 8]] * 5, [1, 2, 3, 4, 5])),
    ("hall 12\n" + "0 1 0 1 0 1 0 1 0 1 0 -1 : 0\n" * 12 + "memory 1",
     Hall([[0, 1] * 5 + [0, -1]] * 12, [[0]] * 12)),
    ("hall 1\n1" + "0" * 399 + "7 : -1" + "0" * 399 + "7 0\nmemory 1" + "0" * 399 + "7",
     Hall([[GREAT]], [[-GREAT, 0]], [GREAT])),
]
TEXT = "hall 2\n0 3 : 1\n-20 0 : -4 0 15\nmemory 1 -1"


def rows_with(at, row):
    rows = TEXT.split("\n")
    rows[at:at + 1] = [row]
    return "\n".join(rows)


class Texts(unittest.TestCase):
    def test_sign_by_sign(self):
        for text, hall in TEXTS:
            self.assertEqual(hall_text(hall), text)
            self.assertEqual(hall_text(hall=hall), text)

    def test_back_again(self):
        for text, hall in TEXTS:
            self.assertEqual(hall_in(text), hall)
            self.assertEqual(hall_in(text=text), hall)
            self.assertIsInstance(hall_in(text), Hall)

    def test_there_and_back(self):
        halls = [Hall(*mix) for mix in parts()] + [hall for hall, _, _ in draws(1, 100)]
        for hall in halls:
            self.assertEqual(hall_in(hall_text(hall)), hall)
            self.assertEqual(hall_text(hall_in(hall_text(hall))), hall_text(hall))

    def test_numbers_of_any_size(self):
        for figures in (1, 2, 9, 10, 59, 60, 61, 119, 120, 121, 640, 641, 4300, 4301, 9000):
            for great in (10 ** (figures - 1), 10 ** figures - 1, 10 ** (figures - 1) + 7):
                hall = Hall([[-great]], [[-great, great]], [great, -great])
                self.assertEqual(hall_in(hall_text(hall)), hall)
            ones = "1" * figures
            text = "hall 1\n-" + ones + " : " + ones + "\nmemory 1"
            self.assertEqual(hall_text(hall_in(text)), text)
            text = "hall 1\n0 : 1\nmemory 1" + "0" * figures
            self.assertEqual(hall_text(hall_in(text)), text)

    def test_numbers_are_numbers(self):
        hall = hall_in("hall 1\n1 : 0\nmemory 1")
        self.assertEqual([type(one) for one in (*hall.strings()[0], *hall.steps()[0], *hall.memory())], [int] * 3)

    def test_many_persons(self):
        for persons in (10, 11, 30):
            hall = Hall([[0] * persons] * persons, [[1]] * persons)
            self.assertEqual(hall_in(hall_text(hall)), hall)


class Refusals(unittest.TestCase):
    def check(self, row, text):
        with self.assertRaises(BadRow) as caught:
            hall_in(text)
        self.assertEqual(caught.exception.row, row, text)

    def test_the_text_itself_is_right(self):
        self.assertEqual(hall_text(hall_in(TEXT)), TEXT)

    def test_bare_text_and_head(self):
        for head in ("", " ", "hall", "hall ", "hall 0", "hall -1", "hall -2", "hall 00", "hall 02", "hall +2",
                     "hall 2 ", " hall 2", "hall  2", "hall 2 2", "Hall 2", "HALL 2", "hall two", "hall 2.", "hall2",
                     "hall\t2", "hall -0", "hall 2:", "halls 2", "memory 2", "2", "2 hall", "hall hall 2", "hall ~",
                     "hall 1_0", "hall 0x2", "hall 2\r", "\u0662", "hall \u0662", "hall \u00b2"):
            self.check(0, head)
            self.check(0, rows_with(0, head))

    def test_head_of_another_number(self):
        # the first person's row has two strings
        for head in ("hall 1", "hall 3", "hall 4", "hall 12", "hall 999999999999999999999999", "hall 1" + "0" * 5000):
            self.check(1, rows_with(0, head))

    def test_rows_of_persons(self):
        for row in ("", " ", "0 3", "0 3 :", "0 3 : ", ": 1", "0 : 1", "0 3 3 : 1", "3 : 1", "0 3 1", "0 3 :1",
                    "0 3: 1",
                    "0 3:1", " 0 3 : 1", "0 3 : 1 ", "0  3 : 1", "0 3  : 1", "0 3 :  1", "0 3 : : 1", "0 3 : 1 :",
                    "0 : 3 1", "0 3 1 :", "0 3 ; 1", "00 3 : 1", "0 03 : 1", "-0 3 : 1", "0 +3 : 1", "0 3 : 01",
                    "0 3 : -0", "0 3 : +1", "0 3 : 1 1", "0 3 : 2 1", "0 3 : 1 2 2", "0 3 : 1 3 2", "0 3 : 1 2 3 4 5",
                    "0 3 : -1 -2", "0 3 : -01", "0 3 : --1", "0 3 : -", "0 3 : 1-", "0 3 : 1.0", "0 3 : 1e3", "a 3 : 1",
                    "0 3 : a", "0 3 : 1,2", "0\t3 : 1", "0 3 : 1\t", "0 3 : 1_0", "hall 2", "memory 1 -1", "0 3 : 1\r",
                    "0 3 : \u0661", "0 3 : None", "0 3 : True"):
            self.check(1, rows_with(1, row))
            self.check(2, rows_with(2, row))

    def test_rows_of_memories(self):
        for row in ("", " ", "memory", "memory ", "memory 0", "memory 1 0", "memory 1 2 3 4 0", "memory 1 1 1 1 1 1",
                    "memory 0 0 0 0 0 1", " memory 1", "memory 1 ", "memory  1", "memory 1  1", "Memory 1", "memory 01",
                    "memory -0", "memory 1 -0", "memory +1", "memory : 1", "memory 1 : 1", "memory a", "memory 1 a",
                    "memories 1", "1 -1", "1 -1 memory", "memory memory 1", "hall 2", "0 3 : 1", "memory 1\r",
                    "memory1"):
            self.check(3, rows_with(3, row))

    def test_a_row_too_many(self):
        for row in ("", " ", "memory 1 -1", "0 3 : 1", "hall 2", "x"):
            self.check(4, TEXT + "\n" + row)
            self.check(4, TEXT + "\n" + row + "\n" + row)
        self.check(4, TEXT + "\n\n\n")
        self.check(4, TEXT + "\n" + TEXT)

    def test_a_line_feed_ahead(self):
        self.check(0, "\n" + TEXT)
        self.check(0, "\n")

    def test_a_row_lacks(self):
        rows = TEXT.split("\n")
        for many in (1, 2, 3):
            self.check(many, "\n".join(rows[:many]))
        self.check(1, "hall 999999999999999999999999")
        self.check(1, "hall 1" + "0" * 5000)
        # where a bare row stands, none lacks there
        for many in (1, 2, 3):
            self.check(many, "\n".join(rows[:many]) + "\n")

    def test_a_row_left_out_or_twice(self):
        rows = TEXT.split("\n")
        self.check(0, "\n".join(rows[1:]))
        self.check(2, "\n".join(rows[:1] + rows[2:]))
        self.check(2, "\n".join(rows[:2] + rows[3:]))
        self.check(1, "\n".join(rows[:1] + rows))
        self.check(3, "\n".join(rows[:2] + rows[1:]))
        self.check(3, "\n".join(rows[:3] + rows[2:]))
        self.check(4, "\n".join(rows + rows[3:]))

    def test_rows_exchanged(self):
        rows = TEXT.split("\n")
        for one, other in ((0, 1), (0, 2), (0, 3), (1, 3), (2, 3)):
            turned = list(rows)
            turned[one], turned[other] = turned[other], turned[one]
            self.check(one, "\n".join(turned))

    def test_the_first_of_several_goes(self):
        rows = TEXT.split("\n")
        for first in range(4):
            self.check(first, "\n".join(rows[:first] + ["?"] * (4 - first)))
            self.check(first, "\n".join(rows[:first] + ["?"] * (9 - first)))
            self.check(first, "\n".join(rows[:first] + ["?"]))

    def test_each_sign_otherwise(self):
        """Whatever one sign is put in, left out or changed, it's the hall of that text or no text."""
        for at in range(len(TEXT) + 1):
            changed = [TEXT[:at] + TEXT[at + 1:]]
            for sign in " 0123456789-+:~ahm\n\t.":
                changed += [TEXT[:at] + sign + TEXT[at:], TEXT[:at] + sign + TEXT[at + 1:]]
            for text in changed:
                self.check_either(text)

    def check_either(self, text):
        try:
            hall = hall_in(text)
        except BadRow as refusal:
            self.assertLessEqual(refusal.row, text.count("\n") + 1)
            # nothing ahead of the row that is told can be to blame: with right rows behind it would stand
            self.check(refusal.row, "\n".join(text.split("\n")[:refusal.row + 1]))
        else:
            self.assertEqual(hall_text(hall), text)

    def test_words_left_out_twice_exchanged(self):
        rows = [row.split(" ") for row in TEXT.split("\n")]
        for at, row in enumerate(rows):
            for place in range(len(row)):
                for new in (row[:place] + row[place + 1:], row[:place + 1] + row[place:],
                            row[:place] + row[place + 1:place + 2] + row[place:place + 1] + row[place + 2:]):
                    self.check_either(rows_with(at, " ".join(new)))


if __name__ == "__main__":
    unittest.main()
