import copy
import unittest

from swayhalls import errors

# name, the class straight above it, its field
WITH_FIELD = [
    ("BadHall", ValueError, "part"), ("BadRow", ValueError, "row"), ("BadPosture", ValueError, "posture"),
    ("BadDeed", ValueError, "at"), ("NoHall", KeyError, "name"), ("NotHeld", KeyError, "person"),
    ("NoPerson", IndexError, "person"), ("Known", RuntimeError, "name"), ("NotLike", RuntimeError, "at"),
    ("TooMany", OverflowError, "many"),
]
BARE = [
    ("BadPast", ValueError), ("Unlike", ValueError), ("NotEven", RuntimeError), ("NotCalm", RuntimeError),
    ("NotSorts", RuntimeError), ("NotWilling", RuntimeError), ("Alone", RuntimeError),
]
ALL = [(name, above) for name, above, _ in WITH_FIELD] + BARE
WORTHS = ["steps", "ab", "", 0, 7, -3, 10 ** 40, None, True, (1, 2), [3]]


class Errors(unittest.TestCase):
    def test_each_stands_straight_under_its_class(self):
        for name, above in ALL:
            self.assertEqual(getattr(errors, name).__bases__, (above,), name)

    def test_none_stands_under_another(self):
        classes = [getattr(errors, name) for name, _ in ALL]
        for one in classes:
            self.assertEqual([other for other in classes if issubclass(one, other)], [one])

    def test_there_are_no_others(self):
        found = {name for name, thing in vars(errors).items() if isinstance(thing, type)}
        self.assertEqual(found, {name for name, _ in ALL})

    def test_field_is_set_by_place(self):
        for name, _, field in WITH_FIELD:
            for worth in WORTHS:
                self.assertIs(getattr(getattr(errors, name)(worth), field), worth, name)

    def test_field_is_set_by_name(self):
        for name, _, field in WITH_FIELD:
            for worth in WORTHS:
                self.assertIs(getattr(getattr(errors, name)(**{field: worth}), field), worth, name)

    def test_field_must_be_told(self):
        for name, _, _ in WITH_FIELD:
            self.assertRaises(TypeError, getattr(errors, name))

    def test_bare_ones_are_made_of_nothing(self):
        for name, above in BARE:
            error = getattr(errors, name)()
            self.assertIsInstance(error, above)
            self.assertEqual(vars(error), {}, name)

    def test_two_of_one_class_keep_their_own_field(self):
        for name, _, field in WITH_FIELD:
            one, other = getattr(errors, name)(1), getattr(errors, name)(2)
            self.assertEqual((getattr(one, field), getattr(other, field)), (1, 2))

    def test_field_stays_where_one_is_raised_and_copied(self):
        for name, above, field in WITH_FIELD:
            for error in (getattr(errors, name)(5), getattr(errors, name)(**{field: 5})):
                with self.assertRaises(above) as caught:
                    raise error
                self.assertEqual(getattr(caught.exception, field), 5)
                self.assertEqual(getattr(copy.copy(error), field), 5)

    def test_numbers_too_long_to_be_written_are_no_hindrance(self):
        for name, _, field in WITH_FIELD:
            if field not in ("part", "name"):
                error = getattr(errors, name)(10 ** 5000)
                self.assertEqual(getattr(error, field), 10 ** 5000)
                self.assertIsInstance(str(error), str)


if __name__ == "__main__":
    unittest.main()
