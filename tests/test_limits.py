import unittest

from swayhalls.limits import MOST


class Limits(unittest.TestCase):
    def test_most_is_a_whole_number(self):
        self.assertEqual(MOST, 400)
        self.assertIs(type(MOST), int)


if __name__ == "__main__":
    unittest.main()
