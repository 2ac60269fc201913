"""Promise 2: whole numbers; and numbers by figures, as promise 13 has them."""

import unittest

from samples import ODD_THINGS
from shorterline.plain import is_tuple_of, is_whole, is_whole_within, read_figure, read_number


class PlainTest(unittest.TestCase):
    def test_whole_numbers(self):
        for thing in ODD_THINGS:
            self.assertIs(is_whole(thing), type(thing) is int, thing)

    def test_bounds(self):
        for number in range(-3, 10):
            self.assertIs(is_whole_within(number, 1, 6), 1 <= number <= 6)
        for thing in (True, None, "3", (3,), [3]):
            self.assertIs(is_whole_within(thing, 1, 6), False)

    def test_tuples(self):
        for thing in ODD_THINGS:
            for many in range(5):
                self.assertIs(is_tuple_of(thing, many), type(thing) is tuple and len(thing) == many)

    def test_figures(self):
        for number in range(10):
            self.assertEqual(read_figure(str(number)), number)
        for word in ("", "00", "10", "-", "-1", "a", " ", "\n", "1\n", " 1", "\u0663", "\u00b2"):
            self.assertIsNone(read_figure(word), word)

    def test_numbers(self):
        for number in (0, 1, 9, 10, 100, 4711, 10 ** 39, 10 ** 40 - 1):
            self.assertEqual(read_number(str(number)), number)
        for word in (
            "", "00", "01", "-1", "+1", "1_0", " 1", "1 ", "1\n", "a", "1a", "\u0663",
            "1" + "0" * 40, "0" * 41, "9" * 41, "9" * 5000,
        ):
            self.assertIsNone(read_number(word), word)


if __name__ == "__main__":
    unittest.main()
