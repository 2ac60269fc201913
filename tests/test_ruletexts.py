"""Promise 15: rules as texts."""

import itertools
import unittest

from samples import FOUR_UNLIKE, HALLS, ONE_SERVER, THREE_UNLIKE, WORDS
from shorterline.errors import NoText
from shorterline.halls import all_lines
from shorterline.rules import is_rule
from shorterline.ruletexts import read_rule, rule_text

# Of this hall a told rule has four places, each 0 or 1.
SMALL = ((1, 2), (((1, 4), 1), ((1, 4), 1)), False)


class RuleTextTest(unittest.TestCase):
    def test_by_hand(self):
        for word in WORDS:
            self.assertEqual(rule_text((word,)), word)
        self.assertEqual(rule_text(("told", (0, 1, 1, 0))), "told 0 1 1 0")

    def test_written_and_read_again(self):
        for hall in HALLS:
            for word in WORDS:
                self.assertEqual(read_rule(hall, rule_text((word,))), (word,))
            many = len(hall[1])
            places = tuple(number % many for number in range(len(all_lines(hall))))
            self.assertEqual(read_rule(hall, rule_text(("told", places))), ("told", places))

    def test_all_told_rules_of_a_small_hall(self):
        for places in itertools.product((0, 1), repeat=4):
            rule = read_rule(SMALL, "told " + " ".join(map(str, places)))
            self.assertEqual(rule, ("told", places))
            self.assertIs(is_rule(SMALL, rule), True)


class ReadRuleTest(unittest.TestCase):
    def assert_refused(self, hall, text, number):
        with self.assertRaises(NoText) as caught:
            read_rule(hall, text)
        self.assertEqual(caught.exception.place, number, text)
        self.assertIs(type(caught.exception.place), int)

    def test_first_words(self):
        for text in (
            "", " ", "  ", "\n", "Random", "RANDOM", "rand", "randomly", " random", "random\n", "\nrandom",
            "shortest", "tell", "tolds 0 1 0 1", "0 1 0 1", "0", "-", " told 0 1 0 1", "told,0 1 0 1",
            "told\n0 1 0 1", "('random',)", "a b c",
        ):
            for hall in HALLS:
                self.assert_refused(hall, text, 0)

    def test_words_behind(self):
        for word in WORDS:
            for behind in (" ", " x", " 0", " random", "  random", "  ", " 0 1 0 1", " \n"):
                self.assert_refused(SMALL, word + behind, 1)

    def test_words_lack(self):
        self.assert_refused(SMALL, "told", 1)
        self.assert_refused(SMALL, "told 0", 2)
        self.assert_refused(SMALL, "told 0 1", 3)
        self.assert_refused(SMALL, "told 0 1 0", 4)
        self.assert_refused(ONE_SERVER, "told 0 0 0", 4)

    def test_one_word_more(self):
        self.assert_refused(SMALL, "told 0 1 0 1 0", 5)
        self.assert_refused(SMALL, "told 0 1 0 1 x y", 5)
        self.assert_refused(SMALL, "told 0 1 0 1 ", 5)
        self.assert_refused(ONE_SERVER, "told 0 0 0 0 0", 5)

    def test_doubled_blanks(self):
        self.assert_refused(SMALL, "told ", 1)
        self.assert_refused(SMALL, "told  0 1 0 1", 1)
        self.assert_refused(SMALL, "told 0  1 0 1", 2)
        self.assert_refused(SMALL, "told 0 1 0  1", 4)
        self.assert_refused(SMALL, "told 0 1 ", 3)

    def test_places_that_are_none(self):
        for wrong in ("2", "9", "00", "01", "10", "11", "-1", "-0", "+1", "a", "1.", "1\n", "\n", "0" * 5000, "1/1"):
            for at in range(4):
                words = ["0", "1", "0", "1"]
                words[at] = wrong
                self.assert_refused(SMALL, "told " + " ".join(words), at + 1)

    def test_the_first_wrong_word_goes(self):
        self.assert_refused(SMALL, "told 0 2", 2)
        self.assert_refused(SMALL, "told 0 2 x", 2)
        self.assert_refused(SMALL, "told 5 2 0 1 0 1", 1)
        self.assert_refused(SMALL, "told random", 1)

    def test_figures_beyond(self):
        for hall in HALLS:
            many, count = len(hall[1]), len(all_lines(hall))
            places = [str(number % many) for number in range(count)]
            places[count - 1] = str(many)
            self.assert_refused(hall, "told " + " ".join(places), count)

    def test_larger_halls(self):
        for hall in (THREE_UNLIKE, FOUR_UNLIKE):
            places = [str(number % 3) for number in range(len(all_lines(hall)))]
            self.assert_refused(hall, "told " + " ".join(places[:-1]), len(places))
            self.assert_refused(hall, "told " + " ".join(places + ["0"]), len(places) + 1)


if __name__ == "__main__":
    unittest.main()
