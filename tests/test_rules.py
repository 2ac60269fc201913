"""Promise 14: rules."""

import copy
import itertools
import unittest
from fractions import Fraction

from samples import (
    FOUR_UNLIKE, HALLS, ODD_THINGS, ONE_SERVER, THREE_UNLIKE, TWO_ALIKE, TWO_UNLIKE, WORDS, places_of,
)
from shorterline.halls import all_lines
from shorterline.rules import is_rule, sent_to


def orders_of(hall):
    return list(itertools.permutations(range(len(hall[1]))))


class IsRuleTest(unittest.TestCase):
    def assert_no_rule(self, hall, thing):
        kept = copy.deepcopy(thing)
        self.assertIs(is_rule(hall, thing), False, thing)
        self.assertEqual(thing, kept)

    def test_words(self):
        for hall in HALLS:
            for word in WORDS:
                self.assertIs(is_rule(hall, (word,)), True, word)

    def test_told(self):
        for hall in HALLS:
            for start in range(len(hall[1])):
                self.assertIs(is_rule(hall, ("told", places_of(hall, start))), True)

    def test_other_kinds(self):
        for hall in HALLS:
            for thing in ODD_THINGS:
                if thing != ("random",):
                    self.assert_no_rule(hall, thing)
            for word in WORDS:
                for thing in (word, [word], (word, ()), (word, word), ((word,),), (word, None), {word: True}):
                    self.assert_no_rule(hall, thing)

    def test_words_that_are_none(self):
        for word in ("", "Random", "random ", "shortest", "tell", "told", "turn", None, 0, ("random",), ["two"], {}):
            self.assert_no_rule(TWO_ALIKE, (word,))
            self.assert_no_rule(TWO_ALIKE, (word, ()))

    def test_words_other_than_told_have_no_places(self):
        for word in WORDS:
            self.assert_no_rule(TWO_ALIKE, (word, places_of(TWO_ALIKE)))

    def test_told_places(self):
        for hall in HALLS:
            places = places_of(hall)
            self.assert_no_rule(hall, ("told",))
            self.assert_no_rule(hall, ("told", places, places))
            self.assert_no_rule(hall, ["told", places])
            self.assert_no_rule(hall, ("told", list(places)))
            self.assert_no_rule(hall, ("told", places + (0,)))
            self.assert_no_rule(hall, ("told", places[:-1]))
            self.assert_no_rule(hall, ("told", ()))
            self.assert_no_rule(hall, ("told",) + places)
            self.assert_no_rule(hall, ("told", "0" * len(places)))
            self.assert_no_rule(hall, ("told", {number: 0 for number in range(len(places))}))

    def test_numbers_of_told_places(self):
        for hall in HALLS:
            places = places_of(hall)
            for at in (0, len(places) // 2, len(places) - 1):
                for wrong in (len(hall[1]), -1, 10 ** 39, True, False, None, "0", (0,), [0]):
                    self.assert_no_rule(hall, ("told", places[:at] + (wrong,) + places[at + 1:]))


def expected(hall, rule, stand, order):
    """The line as promise 14 words it, reckoned by sorting."""
    lines, turn = stand
    word = rule[0]
    if word == "random":
        return order[0]
    if word == "turns":
        return turn
    if word == "told":
        return rule[1][all_lines(hall).index(lines)]
    asked = order[:2] if word == "two" else order
    if word == "quick":
        weight = [Fraction(many + 1) / Fraction(*server[0]) for many, server in zip(lines, hall[1])]
    else:
        weight = lines
    return min((weight[line], place, line) for place, line in enumerate(asked))[2]


class SentToTest(unittest.TestCase):
    def test_all_stands_and_orders(self):
        for hall in HALLS:
            rules = [(word,) for word in WORDS] + [("told", places_of(hall)), ("told", places_of(hall, 1))]
            for rule in rules:
                turns = range(len(hall[1])) if rule == ("turns",) else (0,)
                for lines in all_lines(hall):
                    for turn in turns:
                        for order in orders_of(hall):
                            stand = (lines, turn)
                            told = sent_to(hall, rule, stand, order)
                            self.assertIs(type(told), int)
                            self.assertEqual(told, expected(hall, rule, stand, order), (hall, rule, stand, order))

    def test_single_line(self):
        for rule in [(word,) for word in WORDS] + [("told", (0, 0, 0, 0))]:
            for many in range(4):
                self.assertEqual(sent_to(ONE_SERVER, rule, ((many,), 0), (0,)), 0)

    def test_random(self):
        self.assertEqual(sent_to(FOUR_UNLIKE, ("random",), ((1, 2, 1, 2), 0), (2, 0, 1, 3)), 2)
        self.assertEqual(sent_to(FOUR_UNLIKE, ("random",), ((0, 0, 0, 2), 0), (3, 0, 1, 2)), 3)

    def test_turns(self):
        for turn in range(4):
            self.assertEqual(sent_to(FOUR_UNLIKE, ("turns",), ((1, 2, 1, 2), turn), (2, 0, 1, 3)), turn)

    def test_two(self):
        two = ("two",)
        self.assertEqual(sent_to(THREE_UNLIKE, two, ((0, 1, 2), 0), (2, 1, 0)), 1)
        self.assertEqual(sent_to(THREE_UNLIKE, two, ((0, 1, 2), 0), (1, 2, 0)), 1)
        self.assertEqual(sent_to(THREE_UNLIKE, two, ((0, 1, 1), 0), (2, 1, 0)), 2)
        self.assertEqual(sent_to(THREE_UNLIKE, two, ((0, 0, 0), 0), (1, 2, 0)), 1)
        self.assertEqual(sent_to(THREE_UNLIKE, two, ((2, 1, 3), 0), (0, 2, 1)), 0)

    def test_least(self):
        least = ("least",)
        self.assertEqual(sent_to(THREE_UNLIKE, least, ((0, 1, 2), 0), (2, 1, 0)), 0)
        self.assertEqual(sent_to(THREE_UNLIKE, least, ((1, 1, 1), 0), (2, 1, 0)), 2)
        self.assertEqual(sent_to(THREE_UNLIKE, least, ((2, 1, 1), 0), (0, 1, 2)), 1)

    def test_least_goes_to_a_full_line_too(self):
        self.assertEqual(sent_to(TWO_UNLIKE, ("least",), ((1, 5), 0), (1, 0)), 0)

    def test_quick(self):
        quick = ("quick",)
        hall = ((1, 10), (((1, 5), 4), ((2, 5), 4)), False)
        self.assertEqual(sent_to(hall, quick, ((0, 0), 0), (0, 1)), 1)
        self.assertEqual(sent_to(hall, quick, ((0, 1), 0), (0, 1)), 0)
        self.assertEqual(sent_to(hall, quick, ((0, 1), 0), (1, 0)), 1)
        self.assertEqual(sent_to(hall, quick, ((0, 2), 0), (1, 0)), 0)
        self.assertEqual(sent_to(hall, quick, ((4, 4), 0), (0, 1)), 1)

    def test_told(self):
        hall = ((1, 2), (((1, 4), 1), ((1, 4), 2)), False)
        rule = ("told", (0, 1, 1, 0, 0, 1))
        told = [sent_to(hall, rule, (lines, 0), (1, 0)) for lines in all_lines(hall)]
        self.assertEqual(told, [0, 1, 1, 0, 0, 1])


if __name__ == "__main__":
    unittest.main()
