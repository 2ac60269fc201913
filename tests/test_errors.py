"""The row "errors" of the interface."""

import unittest

from samples import ODD_THINGS
from shorterline import errors

OF_WORD_AND_NUMBER = ("NoHall", "NoShares", "NoBest", "NoNever")
OF_TEXT = ("NoFraction", "NoAlike", "NoBack", "NoRow")
ALL = OF_WORD_AND_NUMBER + ("NoText", "TooMany") + OF_TEXT


class ErrorsTest(unittest.TestCase):
    def test_base_stands_straight_under_value_error(self):
        self.assertEqual(errors.LineError.__bases__, (ValueError,))

    def test_each_stands_straight_under_the_base(self):
        for name in ALL:
            self.assertEqual(getattr(errors, name).__bases__, (errors.LineError,), name)

    def test_none_stands_under_another(self):
        for one in ALL:
            for other in ALL:
                if one != other:
                    self.assertFalse(issubclass(getattr(errors, one), getattr(errors, other)))

    def test_word_and_number_are_the_very_things(self):
        for name in OF_WORD_AND_NUMBER:
            for word in ODD_THINGS:
                for number in ODD_THINGS:
                    refusal = getattr(errors, name)(word, number)
                    self.assertIs(refusal.word, word)
                    self.assertIs(refusal.number, number)

    def test_place_is_the_very_thing(self):
        for place in ODD_THINGS:
            self.assertIs(errors.NoText(place).place, place)

    def test_word_is_the_very_thing(self):
        for word in ODD_THINGS:
            self.assertIs(errors.TooMany(word).word, word)

    def test_lists_and_dicts_are_kept_and_not_changed(self):
        word, number = [1, [2]], {"a": [3]}
        refusal = errors.NoHall(word, number)
        self.assertIs(refusal.word, word)
        self.assertIs(refusal.number, number)
        self.assertEqual((word, number), ([1, [2]], {"a": [3]}))

    def test_two_refusals_keep_their_own_things(self):
        one, other = errors.NoBest("worth", 1), errors.NoBest("better", 2)
        self.assertEqual((one.word, one.number), ("worth", 1))
        self.assertEqual((other.word, other.number), ("better", 2))

    def test_made_of_a_text(self):
        for name in OF_TEXT + ("LineError",):
            for text in ("", "a text", "two\nlines"):
                refusal = getattr(errors, name)(text)
                self.assertIsInstance(refusal, errors.LineError)
                self.assertEqual(str(refusal), text)

    def test_each_is_caught_by_the_base_and_by_value_error(self):
        for name in OF_WORD_AND_NUMBER:
            for caught in (errors.LineError, ValueError, getattr(errors, name)):
                with self.assertRaises(caught):
                    raise getattr(errors, name)("word", 3)
        for name in OF_TEXT + ("NoText", "TooMany"):
            for caught in (errors.LineError, ValueError, getattr(errors, name)):
                with self.assertRaises(caught):
                    raise getattr(errors, name)("text")


if __name__ == "__main__":
    unittest.main()
