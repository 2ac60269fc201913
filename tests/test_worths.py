"""Promises 50 and 51: worths of rules, prices by a table, one look ahead."""

import copy
import itertools
import random
import unittest
from fractions import Fraction
from unittest import mock

from samples import (
    FEES, FOUR_ALIKE, FOUR_UNLIKE, HALLS, LARGE, LARGEST, LESSES, ONE_MOVED, ONE_SERVER, SIXTY, SIXTY_ONE, THREE_ALIKE,
    THREE_SMALL, THREE_UNLIKE, TWO_ALIKE, TWO_MOVED, TWO_UNLIKE, lines_turned, made_of, number, pair, price_by_hand,
    rule_turned, rules_of, stands_of, with_moved, with_rest, without_rest,
)
from shorterline.errors import LineError, TooMany
from shorterline.fractions import is_fraction
from shorterline.halls import all_lines, hall_turned, is_hall
from shorterline.moves import all_orders
from shorterline.worths import look_ahead, price_of, worths_of

RANDOM = ("random",)
LEAST = ("least",)
TURNS = ("turns",)

SMALL = (ONE_SERVER, ONE_MOVED, TWO_ALIKE, TWO_MOVED, TWO_UNLIKE, THREE_SMALL)
FEE = (3, 2)
LESS = (2, 3)

# Sixty-one LINES: a room somewhat beyond the told bound, of which nothing refuses.
SIXTY_ONE_LINES = ((1, 3), (((1, 2), 60),), False)
SIXTY_LINES = ((1, 3), (((1, 2), 59),), False)


class WorthsCase(unittest.TestCase):
    def assert_worths(self, hall, rule, fee, less):
        """The worths are of all stands, rising, and each is what promise 50 has of it: there is just one such table."""
        kept = copy.deepcopy((hall, rule, fee, less))
        worths = worths_of(hall, rule, fee, less)
        self.assertEqual((hall, rule, fee, less), kept)
        self.assertIs(type(worths), tuple)
        for one in worths:
            self.assertIs(type(one), tuple)
            self.assertEqual(len(one), 2)
            self.assertIs(is_fraction(one[1]), True)
        self.assertEqual([stand for stand, _ in worths], stands_of(hall, rule))
        values = {stand: number(worth) for stand, worth in worths}
        for stand, worth in values.items():
            self.assertEqual(worth, made_of(hall, rule, fee, less, values, stand), (hall, rule, fee, less, stand))
        return worths

    def assert_too_many(self, hall, rule, fee=FEE, less=LESS):
        with self.assertRaises(TooMany) as caught:
            worths_of(hall, rule, fee, less)
        self.assertIs(type(caught.exception), TooMany)
        self.assertIsInstance(caught.exception, LineError)
        self.assertEqual(caught.exception.word, "stands")


class WorthsOfTest(WorthsCase):
    def test_halls_rules_fees_and_lesses(self):
        for hall in (ONE_SERVER, ONE_MOVED, TWO_ALIKE, TWO_UNLIKE):
            for moved in (False, True):
                hall = with_moved(hall, moved)
                for rule in rules_of(hall):
                    for fee, less in itertools.product(FEES, LESSES):
                        self.assert_worths(hall, rule, fee, less)

    def test_larger_halls(self):
        for hall in (TWO_MOVED, THREE_ALIKE, THREE_UNLIKE, THREE_SMALL, FOUR_ALIKE):
            for moved in (False, True):
                hall = with_moved(hall, moved)
                for rule in rules_of(hall):
                    if len(stands_of(hall, rule)) > 60:
                        self.assert_too_many(hall, rule)
                    else:
                        self.assert_worths(hall, rule, FEE, LESS)
                        self.assert_worths(hall, rule, (10000, 1), (9999, 10000))

    def test_four_unlike(self):
        for rule in rules_of(FOUR_UNLIKE):
            if rule == TURNS:
                self.assert_too_many(FOUR_UNLIKE, rule)
            else:
                self.assert_worths(FOUR_UNLIKE, rule, (7, 3), (9, 10))

    def test_with_and_without_a_rest(self):
        for sample in (TWO_MOVED, TWO_UNLIKE, THREE_SMALL):
            for hall in (with_rest(sample), without_rest(sample)):
                self.assertIs(is_hall(hall), True)
                for rule in rules_of(hall):
                    self.assert_worths(hall, rule, FEE, LESS)

    def test_a_less_of_0_leaves_how_many_are_there(self):
        for hall in SMALL + (SIXTY,):
            for rule in rules_of(hall):
                for fee in FEES:
                    if len(stands_of(hall, rule)) <= 60:
                        self.assertEqual(
                            worths_of(hall, rule, fee, (0, 1)),
                            tuple((stand, (sum(stand[0]), 1)) for stand in stands_of(hall, rule)),
                        )

    def test_one_place_by_hand(self):
        # A room of 1: v0 = (v0 / 2 + v1 / 2) / 2 and v1 = 1 + (v0 / 2 + (v1 + 2) / 2) / 2, fee 2, less 1/2.
        hall = ((1, 2), (((1, 2), 1),), False)
        for rule in rules_of(hall):
            self.assertEqual(
                worths_of(hall, rule, (2, 1), (1, 2)), ((((0,), 0), (3, 4)), (((1,), 0), (9, 4)))
            )
            # Without a fee: v0 = v1 / 3, v1 = 1 + v0 / 4 + v1 / 4.
            self.assertEqual(
                worths_of(hall, rule, (0, 1), (1, 2)), ((((0,), 0), (1, 2)), (((1,), 0), (3, 2)))
            )

    def test_the_fee_counts_behind_the_turn(self):
        # Full for one turn alone: a less of 1/10000 shows the fee's share times it.
        hall = ((1, 2), (((1, 2), 1),), False)
        with_fee = dict(worths_of(hall, LEAST, (10000, 1), (1, 10000)))
        without = dict(worths_of(hall, LEAST, (0, 1), (1, 10000)))
        more = number(with_fee[((1,), 0)]) - number(without[((1,), 0)])
        self.assertLess(Fraction(1, 2), more)
        self.assertLess(more, Fraction(51, 100))

    def test_lines_that_no_move_leaves(self):
        hall = TWO_MOVED
        worths = {stand: number(worth) for stand, worth in worths_of(hall, RANDOM, FEE, LESS)}
        self.assertIn(((0, 3), 0), worths)
        self.assertEqual(worths[((0, 3), 0)], made_of(hall, RANDOM, FEE, LESS, worths, ((0, 3), 0)))

    def test_by_turns_the_turn_counts(self):
        worths = dict(worths_of(TWO_UNLIKE, TURNS, FEE, LESS))
        self.assertEqual(len(worths), 28)
        self.assertNotEqual(worths[((1, 0), 0)], worths[((1, 0), 1)])

    def test_rules_differ(self):
        self.assertEqual(len({worths_of(THREE_SMALL, rule, FEE, LESS) for rule in rules_of(THREE_SMALL)}), 6)

    def test_all_turned_about(self):
        hall = with_moved(THREE_SMALL, False)
        for rule in rules_of(hall)[:1] + rules_of(hall)[2:]:
            worths = dict(worths_of(hall, rule, FEE, LESS))
            for order in all_orders(hall):
                turned = dict(worths_of(hall_turned(hall, order), rule_turned(hall, rule, order), FEE, LESS))
                for (lines, _), worth in worths.items():
                    self.assertEqual(turned[(lines_turned(lines, order), 0)], worth)

    def test_many_figures(self):
        hall = ((1, 9973), (((997, 9967), 2), ((1999, 9949), 3), ((1777, 9941), 4)), True)
        for rule in (RANDOM, LEAST):
            worths = self.assert_worths(hall, rule, (9997, 9999), (9998, 9999))
            self.assertGreater(max(worth[1] for _, worth in worths), 10 ** 400)

    def test_asked_again(self):
        for rule in rules_of(TWO_UNLIKE):
            self.assertEqual(worths_of(TWO_UNLIKE, rule, FEE, LESS), worths_of(TWO_UNLIKE, rule, FEE, LESS))


class TooManyTest(WorthsCase):
    def test_just_sixty(self):
        for hall, rule in (
            (SIXTY, RANDOM), (SIXTY, LEAST), (with_moved(SIXTY, True), ("quick",)), (SIXTY, rules_of(SIXTY)[-1]),
            (((1, 4), (((1, 8), 4), ((1, 8), 5)), False), TURNS),
            (((1, 4), (((1, 8), 1), ((1, 8), 1), ((1, 8), 4)), True), TURNS),
        ):
            self.assertEqual(len(self.assert_worths(hall, rule, FEE, LESS)), 60)
        for rule in rules_of(SIXTY_LINES):
            self.assertEqual(len(worths_of(SIXTY_LINES, rule, FEE, LESS)), 60)

    def test_sixty_one(self):
        for rule in rules_of(SIXTY_ONE_LINES):
            self.assert_too_many(SIXTY_ONE_LINES, rule)

    def test_more(self):
        sixty_three = ((1, 4), (((1, 8), 6), ((1, 8), 2), ((1, 8), 2)), False)
        sixty_four = ((1, 4), (((1, 8), 3),) * 3, True)
        for hall in (sixty_three, sixty_four, SIXTY_ONE, LARGE, LARGEST):
            for rule in rules_of(hall):
                self.assert_too_many(hall, rule)
                self.assert_too_many(hall, rule, (0, 1), (0, 1))

    def test_by_turns(self):
        # Each of the LINES stands there with each line's turn.
        for hall in (
            ((1, 4), (((1, 8), 6), ((1, 8), 4)), False), SIXTY, THREE_ALIKE, FOUR_ALIKE,
            ((1, 4), (((1, 8), 2), ((1, 8), 6), ((1, 8), 1)), False),
        ):
            self.assert_too_many(hall, TURNS)
            self.assertEqual(len(worths_of(hall, LEAST, FEE, LESS)), len(all_lines(hall)))

    def test_few_that_come_are_counted_all_the_same(self):
        self.assert_too_many(LARGE, ("told", (0,) * 343))

    def test_refused_for_the_count_alone(self):
        with mock.patch("shorterline.worths.MOST_STANDS", 61):
            self.assertEqual(len(self.assert_worths(SIXTY_ONE_LINES, LEAST, FEE, LESS)), 61)
        self.assert_too_many(SIXTY_ONE_LINES, LEAST)


def tables_of(hall, seed):
    """Tables of all sorts: rising, all alike, many figures, below 0, some alike."""
    dice = random.Random(seed)
    many = len(all_lines(hall))
    return (
        tuple((place, 1) for place in range(many)),
        ((5, 3),) * many,
        tuple(pair(Fraction(dice.randrange(-50, 50), dice.randrange(1, 9))) for _ in range(many)),
        tuple(pair(Fraction(-dice.randrange(10 ** 50), dice.randrange(1, 10 ** 30))) for _ in range(many)),
        tuple((dice.randrange(-1, 2), 1) for _ in range(many)),
    )


class PriceTest(unittest.TestCase):
    def assert_prices(self, hall, fee, table, all_of_them):
        kept = copy.deepcopy((hall, fee, table))
        for lines in all_of_them:
            prices = [price_of(hall, fee, table, lines, line) for line in range(len(lines))]
            self.assertTrue(all(is_fraction(price) for price in prices))
            expected = [price_by_hand(hall, fee, table, lines, line) for line in range(len(lines))]
            self.assertEqual([number(price) for price in prices], expected, (hall, fee, lines))
            chosen = look_ahead(hall, fee, table, lines)
            self.assertIs(type(chosen), int)
            self.assertEqual(chosen, expected.index(min(expected)), (hall, fee, lines))
        self.assertEqual((hall, fee, table), kept)

    def test_halls_and_tables(self):
        for sample in HALLS:
            for hall in (sample, with_moved(sample, not sample[2])):
                for at, table in enumerate(tables_of(hall, 7)):
                    self.assert_prices(hall, FEES[at % 4], table, all_lines(hall))

    def test_343_lines(self):
        for moved in (False, True):
            hall = with_moved(LARGE, moved)
            for table in tables_of(hall, 8):
                self.assert_prices(hall, (7, 2), table, all_lines(hall)[::3])

    def test_2401_lines(self):
        for moved in (False, True):
            hall = with_moved(LARGEST, moved)
            self.assert_prices(hall, (7, 2), tables_of(hall, 9)[2], all_lines(hall)[::97])

    def test_full_lines_by_hand(self):
        table = tuple((10 * place, 1) for place in range(9))
        self.assertEqual(price_of(TWO_ALIKE, (7, 2), table, (1, 2), 0), (80, 1))
        self.assertEqual(price_of(TWO_ALIKE, (7, 2), table, (1, 2), 1), (107, 2))
        self.assertEqual(price_of(TWO_ALIKE, (7, 2), table, (2, 2), 0), (167, 2))
        self.assertEqual(price_of(TWO_ALIKE, (0, 1), table, (1, 2), 1), (50, 1))
        self.assertEqual(look_ahead(TWO_ALIKE, (7, 2), table, (1, 2)), 1)
        self.assertEqual(look_ahead(TWO_ALIKE, (30, 1), table, (1, 2)), 0)
        self.assertEqual(look_ahead(TWO_ALIKE, (10000, 1), table, (1, 2)), 0)

    def test_moved_behind_the_coming_by_hand(self):
        # Rooms of 3, so LINES (a, b) have the place 4 * a + b.
        table = tuple((place, 1) for place in range(16))
        self.assertEqual(price_of(TWO_MOVED, FEE, table, (1, 0), 0), (5, 1))
        self.assertEqual(price_of(TWO_MOVED, FEE, table, (0, 1), 1), (5, 1))
        self.assertEqual(price_of(with_moved(TWO_MOVED, False), FEE, table, (1, 0), 0), (8, 1))
        # Lines that no move leaves: of those who are there one is moved behind a turning away, too.
        self.assertEqual(price_of(TWO_MOVED, FEE, table, (3, 0), 0), (21, 2))
        self.assertEqual(price_of(TWO_MOVED, FEE, table, (3, 0), 1), (13, 1))
        self.assertEqual(price_of(TWO_MOVED, FEE, table, (2, 0), 0), (9, 1))

    def test_alike_prices(self):
        for hall in HALLS:
            table = ((-3, 7),) * len(all_lines(hall))
            rooms = [room for _, room in hall[1]]
            for lines in all_lines(hall):
                self.assertEqual(look_ahead(hall, (0, 1), table, lines), 0)
                free = [line for line, room in enumerate(rooms) if lines[line] < room]
                self.assertEqual(look_ahead(hall, (1, 10000), table, lines), free[0] if free else 0)

    def test_one_line(self):
        table = ((4, 1), (-5, 3), (0, 1), (1, 2))
        self.assertEqual(price_of(ONE_SERVER, FEE, table, (0,), 0), (-5, 3))
        self.assertEqual(price_of(ONE_SERVER, FEE, table, (3,), 0), (2, 1))
        for lines in all_lines(ONE_SERVER):
            self.assertEqual(look_ahead(ONE_SERVER, FEE, table, lines), 0)


if __name__ == "__main__":
    unittest.main()
