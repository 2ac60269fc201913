"""Promises 57, 58 and 5: the best paper."""

import copy
import itertools
import random
import unittest
from fractions import Fraction
from unittest import mock

from samples import (
    FEES, FOUR_UNLIKE, HALLS, LARGE, LARGEST, LESSES, ONE_MOVED, ONE_SERVER, SIXTY, SIXTY_ONE, THREE_ALIKE, THREE_SMALL,
    THREE_UNLIKE, TWO_ALIKE, TWO_MOVED, TWO_UNLIKE, lines_turned, number, places_of, price_by_hand, rules_of, stands_of,
    with_moved, with_rest, without_rest,
)
from shorterline.bestchecker import lets_best
from shorterline.bests import best_paper
from shorterline.errors import LineError, TooMany
from shorterline.fractions import is_fraction
from shorterline.halls import all_lines, hall_turned, is_alike
from shorterline.moves import all_orders, moved_on
from shorterline.rules import is_rule
from shorterline.worths import look_ahead, worths_of

LEAST = ("least",)
FEE = (3, 2)
LESS = (2, 3)
SIXTY_FOUR = ((1, 4), (((1, 4), 3), ((1, 8), 3), ((1, 8), 3)), False)


def some_rules(hall):
    """The five words and some told rules."""
    dice = random.Random(3)
    many = len(all_lines(hall))
    return rules_of(hall) + [("told", places_of(hall, start)) for start in (1, 2)] + [
        ("told", tuple(dice.randrange(len(hall[1])) for _ in range(many))) for _ in range(3)
    ]


class BestCase(unittest.TestCase):
    def assert_best(self, hall, fee, less):
        kept = copy.deepcopy((hall, fee, less))
        paper = best_paper(hall, fee, less)
        self.assertEqual((hall, fee, less), kept)
        self.assertIs(type(paper), tuple)
        places, table = paper
        self.assertIs(type(places), tuple)
        self.assertIs(type(table), tuple)
        self.assertEqual(len(table), len(all_lines(hall)))
        self.assertIs(is_rule(hall, ("told", places)), True)
        self.assertTrue(all(is_fraction(worth) for worth in table))
        self.assertIs(lets_best(hall, fee, less, paper), True)
        self.assertEqual(
            worths_of(hall, ("told", places), fee, less),
            tuple(((lines, 0), worth) for lines, worth in zip(all_lines(hall), table)),
        )
        return paper

    def assert_none_betters(self, hall, fee, less, table):
        best = {lines: number(worth) for lines, worth in zip(all_lines(hall), table)}
        for rule in some_rules(hall):
            if len(stands_of(hall, rule)) <= 60:
                for (lines, _), worth in worths_of(hall, rule, fee, less):
                    self.assertLessEqual(best[lines], number(worth), (hall, fee, less, rule, lines))

    def assert_too_many(self, hall, fee=FEE, less=LESS):
        with self.assertRaises(TooMany) as caught:
            best_paper(hall, fee, less)
        self.assertIs(type(caught.exception), TooMany)
        self.assertIsInstance(caught.exception, LineError)
        self.assertEqual(caught.exception.word, "stands")


def least_costs(hall, fee, less, turns):
    """The least cost of so many turns from each LINES, however a rule sends and whatever it looks back at."""
    lines = all_lines(hall)
    shares = [number(speed) for speed, _ in hall[1]]
    come = number(hall[0])
    rest = 1 - come - sum(shares)
    table = [(0, 1)] * len(lines)
    for _ in range(turns):
        costs = []
        for here in lines:
            mean = come * min(price_by_hand(hall, fee, table, here, line) for line in range(len(here)))
            for move, share in [(("done", at), speed) for at, speed in enumerate(shares)] + [(("still",), rest)]:
                behind = moved_on(hall, LEAST, (here, 0), move)[0][0]
                mean += share * number(table[lines.index(behind)])
            cost = sum(here) + number(less) * mean
            costs.append((cost.numerator, cost.denominator))
        table = costs
    return [number(cost) for cost in table]


class BestPaperTest(BestCase):
    def test_let_by_and_not_bettered(self):
        for sample in HALLS + (THREE_SMALL,):
            for hall in (sample, with_moved(sample, not sample[2])):
                for fee, less in ((FEE, LESS), ((10000, 1), (9999, 10000)), ((0, 1), (9, 10))):
                    places, table = self.assert_best(hall, fee, less)
                    self.assert_none_betters(hall, fee, less, table)

    def test_all_fees_and_lesses(self):
        for hall in (ONE_SERVER, ONE_MOVED, TWO_ALIKE, TWO_UNLIKE, with_rest(TWO_MOVED), without_rest(THREE_SMALL)):
            for fee, less in itertools.product(FEES, LESSES):
                places, table = self.assert_best(hall, fee, less)
                self.assert_none_betters(hall, fee, less, table)

    def test_against_the_least_costs_of_some_turns(self):
        # No rule that looks back costs less in those turns; what comes behind them is less and less.
        turns = 12
        for hall in (ONE_SERVER, TWO_ALIKE, TWO_MOVED, TWO_UNLIKE, THREE_SMALL, with_moved(THREE_SMALL, True)):
            for fee, less in ((FEE, (1, 3)), ((0, 1), (1, 4)), ((40, 1), (1, 2))):
                worths = [number(worth) for worth in self.assert_best(hall, fee, less)[1]]
                behind = number(less) ** turns * max(worths)
                for cost, worth in zip(least_costs(hall, fee, less, turns), worths):
                    self.assertLessEqual(cost, worth)
                    self.assertLessEqual(worth, cost + behind)

    def test_against_all_told_rules(self):
        hall = ((1, 2), (((1, 3), 1), ((1, 6), 2)), False)
        for moved in (False, True):
            hall = with_moved(hall, moved)
            for fee, less in ((FEE, LESS), ((0, 1), (9, 10)), ((20, 1), (9, 10))):
                table = self.assert_best(hall, fee, less)[1]
                least = None
                for places in itertools.product((0, 1), repeat=6):
                    worths = [number(worth) for _, worth in worths_of(hall, ("told", places), fee, less)]
                    least = worths if least is None else list(map(min, least, worths))
                self.assertEqual([number(worth) for worth in table], least)

    def test_look_ahead_by_the_table(self):
        for sample in HALLS[:8] + (THREE_SMALL,):
            for hall in (sample, with_moved(sample, not sample[2])):
                for fee, less in ((FEE, LESS), ((0, 1), (9, 10))):
                    table = best_paper(hall, fee, less)[1]
                    places = tuple(look_ahead(hall, fee, table, lines) for lines in all_lines(hall))
                    self.assertIs(lets_best(hall, fee, less, (places, table)), True)

    def test_with_a_less_of_0(self):
        for hall in HALLS:
            for fee in FEES:
                table = self.assert_best(hall, fee, (0, 1))[1]
                self.assertEqual(table, tuple((sum(lines), 1) for lines in all_lines(hall)))

    def test_one_line_by_hand(self):
        hall = ((1, 2), (((1, 2), 1),), False)
        self.assertEqual(best_paper(hall, (2, 1), (1, 2)), ((0, 0), ((3, 4), (9, 4))))

    def test_quick_server_by_hand(self):
        # Turned away for nothing askers cost least, so each who comes is sent to a full line where there is one.
        places, table = best_paper(TWO_UNLIKE, (0, 1), (9, 10))
        for lines, line in zip(all_lines(TWO_UNLIKE), places):
            if 1 == lines[0] or 6 == lines[1]:
                self.assertEqual(lines[line], TWO_UNLIKE[1][line][1])

    def test_turned_about(self):
        for sample in (TWO_UNLIKE, THREE_SMALL, FOUR_UNLIKE):
            hall = with_moved(sample, False)
            table = dict(zip(all_lines(hall), best_paper(hall, FEE, LESS)[1]))
            for order in all_orders(hall)[::3]:
                turned = hall_turned(hall, order)
                other = dict(zip(all_lines(turned), best_paper(turned, FEE, LESS)[1]))
                for lines, worth in table.items():
                    self.assertEqual(other[lines_turned(lines, order)], worth)

    def test_least_is_not_always_best(self):
        # So the best rule is looked for, not only told.
        hall = with_moved(TWO_UNLIKE, False)
        table = best_paper(hall, (50, 1), (9, 10))[1]
        for rule in rules_of(hall):
            worths = worths_of(hall, rule, (50, 1), (9, 10))
            self.assertLess(number(table[0]), number(worths[0][1]))

    def test_asked_again(self):
        for hall in (TWO_UNLIKE, THREE_UNLIKE):
            self.assertEqual(best_paper(hall, FEE, LESS)[1], best_paper(hall, FEE, LESS)[1])


class TooManyTest(BestCase):
    def test_just_sixty(self):
        for hall in (SIXTY, with_moved(SIXTY, True), ((1, 3), (((1, 2), 59),), False)):
            self.assertEqual(len(self.assert_best(hall, FEE, LESS)[0]), 60)

    def test_more(self):
        sixty_one = ((1, 3), (((1, 2), 60),), False)
        for hall in (sixty_one, SIXTY_FOUR, with_moved(SIXTY_FOUR, True), SIXTY_ONE, LARGE, LARGEST):
            self.assert_too_many(hall)
            self.assert_too_many(hall, (0, 1), (0, 1))

    def test_refused_for_the_count_alone(self):
        with mock.patch("shorterline.worths.MOST_STANDS", 64):
            self.assert_best(SIXTY_FOUR, FEE, LESS)
        self.assert_too_many(SIXTY_FOUR)


class LeastTest(BestCase):
    def test_least_has_the_best_worths(self):
        shares = ((1, 2), (1, 4)), ((1, 10), (1, 8)), ((1, 5), (1, 5)), ((9, 10), (1, 50))
        for come, speed in shares:
            for many, rooms in ((1, (1, 4)), (2, (1, 2, 4)), (3, (1, 2))):
                for room in rooms:
                    hall = (come, ((speed, room),) * many, False)
                    self.assert_least_best(without_rest(hall))
                    self.assert_least_best(with_rest(without_rest(hall)))

    def test_four_lines(self):
        self.assert_least_best(((1, 3), (((1, 6), 1),) * 4, False))

    def test_samples(self):
        for hall in HALLS:
            if is_alike(hall):
                self.assert_least_best(with_moved(hall, False))
        self.assertTrue(is_alike(THREE_ALIKE))

    def assert_least_best(self, hall):
        # Fees that times (1 - less) are just 1, and more.
        for fee, less in (
            ((1, 1), (0, 1)), ((2, 1), (1, 2)), ((3, 1), (2, 3)), ((10000, 1), (9999, 10000)), ((4, 3), (1, 4)),
            ((5, 1), (1, 2)), ((10000, 1), (9, 10)),
        ):
            self.assertGreaterEqual(number(fee) * (1 - number(less)), Fraction(1))
            self.assertEqual(
                tuple(worth for _, worth in worths_of(hall, LEAST, fee, less)), best_paper(hall, fee, less)[1],
                (hall, fee, less),
            )

    def test_with_a_lesser_fee_it_may_not(self):
        # So it is the fee that makes it so.
        worths = tuple(worth for _, worth in worths_of(TWO_ALIKE, LEAST, (0, 1), (9, 10)))
        self.assertNotEqual(worths, best_paper(TWO_ALIKE, (0, 1), (9, 10))[1])


if __name__ == "__main__":
    unittest.main()
