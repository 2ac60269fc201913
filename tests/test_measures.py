"""Promises 42 to 44, and 5: measures by the shares, and means of some turns."""

import itertools
import unittest
from fractions import Fraction
from unittest import mock

from samples import (
    FOUR_ALIKE, FOUR_UNLIKE, HALLS, LARGE, LARGEST, ONE_MOVED, ONE_SERVER, SIXTY, SIXTY_ONE, THREE_ALIKE, THREE_SMALL,
    TWO_ALIKE, TWO_MOVED, TWO_UNLIKE, left, lines_turned, moves_of, number, pair, papers, product_paper, rule_turned,
    rules_of, share_of, with_moved, with_rest,
)
from shorterline.errors import LineError, TooMany
from shorterline.fractions import is_fraction
from shorterline.halls import hall_turned
from shorterline.measures import busy_of, held_against, how_many, means_of, served_each, share_away, stay_of
from shorterline.moves import all_orders, first_stand, moved_on
from shorterline.runs import counted, walked
from shorterline.sharing import shares_of
from shorterline.turnings import left_by_turns

RANDOM = ("random",)
LEAST = ("least",)
TURNS = ("turns",)


def by_hand(hall, rule, paper):
    """(how many, away, busy, served, stay) by a share paper, as promise 42 words them."""
    shares = [(stand, number(share)) for stand, share in paper]
    orders = all_orders(hall)
    many = sum(share * sum(lines) for (lines, _), share in shares)
    away = sum(
        share / len(orders) for stand, share in shares for order in orders
        if moved_on(hall, rule, stand, ("come", order))[1] == "away"
    )
    busy = tuple(
        sum(share for (lines, _), share in shares if lines[line] > 0) for line in range(len(hall[1]))
    )
    served = sum(
        share * number(speed) for stand, share in shares for line, (speed, _) in enumerate(hall[1])
        if moved_on(hall, rule, stand, ("done", line))[1] == "served"
    )
    return (many, Fraction(away), busy, served, many / (number(hall[0]) * (1 - away)))


def all_measures(hall, rule):
    return (
        how_many(hall, rule), share_away(hall, rule), busy_of(hall, rule), served_each(hall, rule), stay_of(hall, rule),
    )


class ByTheSharesTest(unittest.TestCase):
    def assert_measures(self, hall, rule, paper):
        many, away, busy, served, stay = all_measures(hall, rule)
        self.assertEqual(
            (many, away, busy, served, stay),
            tuple(tuple(map(pair, value)) if type(value) is tuple else pair(value) for value in by_hand(hall, rule, paper)),
            (hall, rule),
        )
        for value in (many, away, served, stay) + busy:
            self.assertIs(is_fraction(value), True)
        self.assertIs(type(busy), tuple)
        self.assertEqual(len(busy), len(hall[1]))

    def test_halls_and_rules(self):
        halls = HALLS + (THREE_SMALL,)
        for sample in (halls, tuple(with_moved(hall, not hall[2]) for hall in halls)):
            for hall, rule, paper in papers(sample):
                self.assert_measures(hall, rule, paper)

    def test_with_a_rest(self):
        for hall, rule, paper in papers((with_rest(TWO_MOVED), with_rest(TWO_UNLIKE), with_rest(THREE_SMALL))):
            self.assert_measures(hall, rule, paper)

    def test_just_sixty_stands(self):
        self.assert_measures(SIXTY, RANDOM, product_paper(SIXTY))
        self.assert_measures(SIXTY, ("two",), shares_of(SIXTY, ("two",)))

    def test_what_comes_in_is_what_is_served(self):
        for hall, rule, _ in papers():
            many, away, busy, served, stay = all_measures(hall, rule)
            taken = number(hall[0]) * (1 - number(away))
            self.assertEqual(number(served), taken)
            self.assertEqual(
                number(served), sum(number(speed) * number(share) for (speed, _), share in zip(hall[1], busy))
            )
            self.assertEqual(number(many), taken * number(stay))

    def test_one_line_by_hand(self):
        # The shares are 27, 18, 12 and 8 of 65.
        for rule in rules_of(ONE_SERVER):
            self.assertEqual(how_many(ONE_SERVER, rule), (66, 65))
            self.assertEqual(share_away(ONE_SERVER, rule), (8, 65))
            self.assertEqual(busy_of(ONE_SERVER, rule), ((38, 65),))
            self.assertEqual(served_each(ONE_SERVER, rule), (19, 65))
            self.assertEqual(stay_of(ONE_SERVER, rule), (66, 19))

    def test_two_lines_by_hand(self):
        # The shares are 1, 1, 1 and 2 of 5.
        hall = ((1, 2), (((1, 4), 1), ((1, 4), 1)), False)
        self.assertEqual(how_many(hall, LEAST), (6, 5))
        self.assertEqual(share_away(hall, LEAST), (2, 5))
        self.assertEqual(busy_of(hall, LEAST), ((3, 5), (3, 5)))
        self.assertEqual(served_each(hall, LEAST), (3, 10))
        self.assertEqual(stay_of(hall, LEAST), (4, 1))

    def test_a_line_to_which_nobody_is_sent(self):
        hall = ((1, 2), (((1, 4), 1), ((1, 4), 1)), False)
        rule = ("told", (0, 0, 0, 0))
        self.assertEqual(busy_of(hall, rule), ((2, 3), (0, 1)))
        self.assertEqual(share_away(hall, rule), (2, 3))
        self.assertEqual(how_many(hall, rule), (2, 3))

    def test_nothing_is_changed_and_asked_again(self):
        for rule in rules_of(TWO_UNLIKE):
            self.assertEqual(all_measures(TWO_UNLIKE, rule), all_measures(TWO_UNLIKE, rule))


class HeldAgainstTest(unittest.TestCase):
    def test_two_rules(self):
        for hall in (ONE_SERVER, TWO_ALIKE, TWO_MOVED, TWO_UNLIKE, THREE_SMALL):
            for one, other in itertools.product(rules_of(hall), repeat=2):
                held = held_against(hall, one, other)
                self.assertIs(type(held), tuple)
                self.assertEqual([type(half) for half in held], [tuple, tuple])
                self.assertEqual(
                    held,
                    tuple((how_many(hall, rule), share_away(hall, rule), stay_of(hall, rule)) for rule in (one, other)),
                )

    def test_alike_ones(self):
        for hall in (TWO_ALIKE, FOUR_UNLIKE):
            one, other = held_against(hall, LEAST, LEAST)
            self.assertEqual(one, other)
        one, other = held_against(TWO_UNLIKE, ("two",), LEAST)
        self.assertEqual(one, other)

    def test_by_hand(self):
        hall = ((1, 2), (((1, 4), 1), ((1, 4), 1)), False)
        self.assertEqual(
            held_against(hall, LEAST, RANDOM), (((6, 5), (2, 5), (4, 1)), ((1, 1), (1, 2), (4, 1)))
        )
        self.assertEqual(
            held_against(hall, RANDOM, LEAST), (((1, 1), (1, 2), (4, 1)), ((6, 5), (2, 5), (4, 1)))
        )


class TurnedTest(unittest.TestCase):
    def test_servers_turned_about(self):
        for sample in (ONE_SERVER, TWO_ALIKE, TWO_UNLIKE, THREE_ALIKE, THREE_SMALL, FOUR_UNLIKE):
            hall = with_moved(sample, False)
            orders = all_orders(hall)
            for order in orders if len(orders) < 24 else orders[1::7]:
                turned = hall_turned(hall, order)
                for rule in (RANDOM, ("two",), LEAST, ("quick",)):
                    many, away, busy, served, stay = all_measures(hall, rule)
                    self.assertEqual(all_measures(turned, rule), (many, away, lines_turned(busy, order), served, stay))
                    self.assertEqual(held_against(turned, rule, rule), held_against(hall, rule, rule))
                    self.assertEqual(means_of(turned, rule, 5), means_of(hall, rule, 5))

    def test_told_rules_turned_along(self):
        rule = rules_of(THREE_SMALL)[-1]
        for order in all_orders(THREE_SMALL):
            many, away, busy, served, stay = all_measures(THREE_SMALL, rule)
            self.assertEqual(
                all_measures(hall_turned(THREE_SMALL, order), rule_turned(THREE_SMALL, rule, order)),
                (many, away, lines_turned(busy, order), served, stay),
            )


class TooManyTest(unittest.TestCase):
    def assert_too_many(self, measure, *handed):
        with self.assertRaises(TooMany) as caught:
            measure(*handed)
        self.assertIs(type(caught.exception), TooMany)
        self.assertIsInstance(caught.exception, LineError)
        self.assertEqual(caught.exception.word, "stands")

    def test_each_but_means(self):
        for hall, rule in ((SIXTY_ONE, RANDOM), (LARGE, RANDOM), (LARGE, TURNS), (LARGEST, LEAST), (FOUR_ALIKE, TURNS)):
            for measure in (how_many, share_away, busy_of, served_each, stay_of):
                self.assert_too_many(measure, hall, rule)
            self.assert_too_many(held_against, hall, rule, rule)
            self.assertEqual(len(means_of(hall, rule, 2)), 3)

    def test_one_of_two_rules(self):
        self.assertEqual(len(held_against(SIXTY_ONE, LEAST, LEAST)), 2)
        self.assert_too_many(held_against, SIXTY_ONE, LEAST, RANDOM)
        self.assert_too_many(held_against, SIXTY_ONE, RANDOM, LEAST)

    def test_refused_for_the_count_alone(self):
        with mock.patch("shorterline.turnings.MOST_STANDS", 61):
            self.assertEqual(
                [pair(value) for value in by_hand(SIXTY_ONE, RANDOM, shares_of(SIXTY_ONE, RANDOM))[:2]],
                [how_many(SIXTY_ONE, RANDOM), share_away(SIXTY_ONE, RANDOM)],
            )


def means_by_turns(hall, rule, most):
    """The means of 0 to most turns, each move made by moved_on."""
    shares = {first_stand(hall): Fraction(1)}
    served = away = Fraction(0)
    for _ in range(most + 1):
        many = sum(share * sum(lines) for (lines, _), share in shares.items())
        yield (pair(many), pair(served), pair(away))
        for stand, share in shares.items():
            for move in moves_of(hall):
                word = moved_on(hall, rule, stand, move)[1]
                served += share * share_of(hall, move) * (word == "served")
                away += share * share_of(hall, move) * (word == "away")
        shares = left(hall, rule, shares)


class MeansTest(unittest.TestCase):
    def assert_means(self, hall, rule, most):
        for turns, expected in enumerate(means_by_turns(hall, rule, most)):
            if turns in (0, 1, 2, 3, most):
                means = means_of(hall, rule, turns)
                self.assertEqual(means, expected, (hall, rule, turns))
                self.assertIs(type(means), tuple)
                self.assertTrue(all(is_fraction(value) for value in means))

    def test_no_turn(self):
        for hall in HALLS + (LARGE, LARGEST):
            for rule in rules_of(hall):
                self.assertEqual(means_of(hall, rule, 0), ((0, 1), (0, 1), (0, 1)))

    def test_one_turn(self):
        for hall in HALLS + (LARGE, LARGEST):
            for rule in rules_of(hall):
                self.assertEqual(means_of(hall, rule, 1), (hall[0], (0, 1), (0, 1)))

    def test_twelve_turns(self):
        for hall in HALLS[:7]:
            for rule in rules_of(hall):
                self.assert_means(hall, rule, 12)

    def test_four_lines(self):
        for hall in (FOUR_ALIKE, FOUR_UNLIKE):
            for rule in rules_of(hall):
                self.assert_means(hall, rule, 5)
        self.assert_means(FOUR_ALIKE, TURNS, 12)

    def test_more_than_sixty_stands(self):
        self.assertGreater(len(left_by_turns(LARGE, RANDOM, 12)), 60)
        for hall, rule in ((LARGE, RANDOM), (LARGE, TURNS), (SIXTY_ONE, RANDOM), (with_moved(LARGE, True), LEAST)):
            self.assert_means(hall, rule, 12)

    def test_largest_hall(self):
        for rule in rules_of(LARGEST):
            many, served, away = map(number, means_of(LARGEST, rule, 12))
            self.assertEqual(many + served + away, 12 * number(LARGEST[0]))

    def test_all_who_came(self):
        for hall in HALLS:
            for rule in rules_of(hall):
                for turns in (0, 1, 2, 12, 14):
                    many, served, away = map(number, means_of(hall, rule, turns))
                    self.assertEqual(many + served + away, turns * number(hall[0]))

    def test_by_all_runs(self):
        for hall, turns in ((ONE_SERVER, 5), (ONE_MOVED, 4), (TWO_ALIKE, 4), (TWO_MOVED, 3), (THREE_SMALL, 3)):
            for rule in rules_of(hall):
                sums = [Fraction(0)] * 3
                for run in itertools.product(moves_of(hall), repeat=turns):
                    share = Fraction(1)
                    for move in run:
                        share *= share_of(hall, move)
                    if share:
                        _, _, away, served = counted(hall, rule, run)
                        there = sum(walked(hall, rule, run)[-1][0])
                        sums = [total + share * value for total, value in zip(sums, (there, served, away))]
                self.assertEqual(means_of(hall, rule, turns), tuple(map(pair, sums)))

    def test_by_hand(self):
        # Behind two turns: 0, 1, 2 askers by 11, 5, 2 of 18; one was served where one came and was done at once.
        self.assertEqual(means_of(ONE_SERVER, LEAST, 2), ((1, 2), (1, 6), (0, 1)))
        hall = ((1, 2), (((1, 4), 1), ((1, 4), 1)), False)
        self.assertEqual(means_of(hall, ("told", (0, 0, 0, 0)), 2), ((5, 8), (1, 8), (1, 4)))


if __name__ == "__main__":
    unittest.main()
