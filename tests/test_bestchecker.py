"""Promises 54, 56 and 5: the small checker of best papers."""

import copy
import itertools
import random
import unittest
from fractions import Fraction
from unittest import mock

from samples import (
    FEES, FOUR_ALIKE, FOUR_UNLIKE, HALLS, LARGE, LARGEST, LESSES, ODD_THINGS, ONE_MOVED, ONE_SERVER, SIXTY, THREE_ALIKE,
    THREE_SMALL, THREE_UNLIKE, TWO_ALIKE, TWO_MOVED, TWO_UNLIKE, made_of, number, pair, places_of, price_by_hand,
    with_moved, with_rest,
)
from shorterline.bestchecker import lets_best
from shorterline.bests import best_paper
from shorterline.errors import LineError, NoBest
from shorterline.halls import all_lines
from shorterline.worths import worths_of

FEE = (3, 2)
LESS = (2, 3)
SIXTY_FOUR = ((1, 4), (((1, 4), 3), ((1, 8), 3), ((1, 8), 3)), False)


def first_amiss(hall, fee, less, paper):
    """What promise 56 tells of a paper of right shape, by Python's own fractions and moved_on."""
    places, table = paper
    worths = {(lines, 0): number(worth) for lines, worth in zip(all_lines(hall), table)}
    for at, lines in enumerate(all_lines(hall)):
        if worths[(lines, 0)] != made_of(hall, ("told", places), fee, less, worths, (lines, 0)):
            return ("worth", at)
        prices = [price_by_hand(hall, fee, table, lines, line) for line in range(len(lines))]
        if min(prices) < prices[places[at]]:
            return ("better", at)
    return None


def own_table(hall, fee, less, places):
    """The worths of the told rule of these places."""
    return tuple(worth for _, worth in worths_of(hall, ("told", places), fee, less))


def put(things, at, thing):
    return things[:at] + (thing,) + things[at + 1:]


def flat_paper(hall, fee):
    """The best paper with a less of 0: how many are there, and the first line of the least price."""
    places = []
    for lines in all_lines(hall):
        away = [many == room for many, (_, room) in zip(lines, hall[1])]
        wanted = number(fee) < 1
        places.append(away.index(wanted) if wanted in away else 0)
    return (tuple(places), tuple((sum(lines), 1) for lines in all_lines(hall)))


class CheckerCase(unittest.TestCase):
    def assert_let_by(self, hall, fee, less, thing):
        kept = copy.deepcopy((hall, fee, less, thing))
        self.assertIs(lets_best(hall, fee, less, thing), True)
        self.assertEqual((hall, fee, less, thing), kept)

    def assert_refused(self, hall, fee, less, thing, word, place=-1):
        kept = copy.deepcopy((hall, fee, less, thing))
        with self.assertRaises(NoBest) as caught:
            lets_best(hall, fee, less, thing)
        self.assertIs(type(caught.exception), NoBest)
        self.assertIsInstance(caught.exception, LineError)
        self.assertEqual((caught.exception.word, caught.exception.number), (word, place), thing)
        self.assertIs(type(caught.exception.number), int)
        self.assertEqual((hall, fee, less, thing), kept)

    def assert_as_told(self, hall, fee, less, paper):
        """It answers as promise 56 words it; what it answers is told."""
        fault = first_amiss(hall, fee, less, paper)
        if fault is None:
            self.assert_let_by(hall, fee, less, paper)
        else:
            self.assert_refused(hall, fee, less, paper, *fault)
        return fault


class LetByTest(CheckerCase):
    def test_told_papers(self):
        for sample in HALLS[:8] + (THREE_SMALL,):
            for hall in (sample, with_moved(sample, not sample[2])):
                for fee, less in zip(FEES, LESSES):
                    self.assertIsNone(self.assert_as_told(hall, fee, less, best_paper(hall, fee, less)))

    def test_all_fees_and_lesses(self):
        for hall in (ONE_SERVER, TWO_ALIKE, with_rest(TWO_MOVED), TWO_UNLIKE):
            for fee, less in itertools.product(FEES, LESSES):
                self.assert_let_by(hall, fee, less, best_paper(hall, fee, less))

    def test_by_hand(self):
        # A room of 1, fee 2, less 1/2: see the worths' own test.
        hall = ((1, 2), (((1, 2), 1),), False)
        self.assert_let_by(hall, (2, 1), (1, 2), ((0, 0), ((3, 4), (9, 4))))
        self.assert_let_by(hall, (0, 1), (1, 2), ((0, 0), ((1, 2), (3, 2))))
        self.assert_let_by(hall, (2, 1), (0, 1), ((0, 0), ((0, 1), (1, 1))))

    def test_other_places_of_as_low_a_price(self):
        # Void lines of alike servers may be told either way; so may two full ones.
        places, table = best_paper(TWO_ALIKE, FEE, LESS)
        for at in (0, 4, 8):
            for line in (0, 1):
                self.assert_let_by(TWO_ALIKE, FEE, LESS, (put(places, at, line), table))

    def test_sixty_lines(self):
        self.assert_let_by(SIXTY, FEE, LESS, best_paper(SIXTY, FEE, LESS))

    def test_more_than_sixty_lines_with_a_less_of_0(self):
        for sample in (LARGE, LARGEST, SIXTY_FOUR):
            for hall in (sample, with_moved(sample, True)):
                for fee in ((0, 1), (1, 1), (10000, 1)):
                    self.assert_let_by(hall, fee, (0, 1), flat_paper(hall, fee))

    def test_more_than_sixty_lines_with_another_less(self):
        with mock.patch("shorterline.worths.MOST_STANDS", 100):
            for hall in (SIXTY_FOUR, with_moved(SIXTY_FOUR, True)):
                paper = best_paper(hall, FEE, LESS)
                self.assertEqual(len(paper[0]), 64)
                self.assert_let_by(hall, FEE, LESS, paper)


class ShapeTest(CheckerCase):
    def test_other_kinds(self):
        for hall in HALLS:
            places = (0,) * len(all_lines(hall))
            table = ((0, 1),) * len(places)
            for thing in ODD_THINGS:
                wrongs = [
                    thing, (thing,), (places, thing), (thing, table), (places, table, thing),
                    (places, put(table, 0, thing)), (places, put(table, len(table) - 1, thing)),
                    (places, put(table, 0, (thing, 0))),
                ]
                if type(thing) is not int:
                    wrongs += [
                        (put(places, 0, thing), table), (put(places, len(places) - 1, thing), table),
                        (places, put(table, 0, (0, thing))), (places, put(table, 0, (thing, 1))),
                    ]
                for wrong in wrongs:
                    self.assert_refused(hall, FEE, LESS, wrong, "shape")

    def test_lists_for_tuples(self):
        for hall in (ONE_SERVER, TWO_MOVED, THREE_UNLIKE):
            places, table = best_paper(hall, FEE, LESS)
            for wrong in (
                [places, table], (list(places), table), (places, list(table)),
                (places, put(table, 0, list(table[0]))), (places, put(table, len(table) - 1, list(table[-1]))),
                {0: places, 1: table},
            ):
                self.assert_refused(hall, FEE, LESS, wrong, "shape")

    def test_truths_for_numbers(self):
        hall = TWO_ALIKE
        places, table = flat_paper(hall, FEE)
        for at in range(len(places)):
            self.assert_refused(hall, FEE, (0, 1), (put(places, at, bool(places[at])), table), "shape")
            self.assert_refused(hall, FEE, (0, 1), (places, put(table, at, (table[at][0], True))), "shape")
        self.assertEqual((table[0], table[1]), ((0, 1), (1, 1)))
        self.assert_refused(hall, FEE, (0, 1), (places, put(table, 0, (False, 1))), "shape")
        self.assert_refused(hall, FEE, (0, 1), (places, put(table, 1, (True, 1))), "shape")

    def test_lines_beyond_and_below(self):
        for hall in HALLS[:8]:
            places, table = best_paper(hall, FEE, LESS)
            for at in {0, len(places) // 2, len(places) - 1}:
                for line in (len(hall[1]), len(hall[1]) + 1, -1, -2, 10 ** 40, None, "0", (0,)):
                    self.assert_refused(hall, FEE, LESS, (put(places, at, line), table), "shape")

    def test_one_more_and_one_fewer(self):
        for hall in HALLS[:8]:
            places, table = best_paper(hall, FEE, LESS)
            for wrong in (
                (places + (0,), table), (places[:-1], table), (places, table + table[:1]), (places, table[:-1]),
                (places + (0,), table + table[:1]), (places[:-1], table[:-1]), ((), ()), (places, ()), ((), table),
                (places,), (places, table, table), (table, places), places + table, (places, table, None),
            ):
                self.assert_refused(hall, FEE, LESS, wrong, "shape")

    def test_worths_that_are_no_fractions(self):
        for hall in (ONE_SERVER, TWO_UNLIKE, THREE_ALIKE):
            places, table = best_paper(hall, FEE, LESS)
            for at in {0, len(table) // 2, len(table) - 1}:
                top, bottom = table[at]
                for wrong in (
                    (2 * top, 2 * bottom), (-top, -bottom), (top, 0), (0, 0), (1, 0), (top, -bottom), (0, 2), (4, 2),
                    (top, bottom, 1), (top,), top, (str(top), bottom), (top, None), ((top, bottom),), None,
                    (6 * 10 ** 500, 4 * 10 ** 500),
                ):
                    self.assert_refused(hall, FEE, LESS, (places, put(table, at, wrong)), "shape")

    def test_shape_ahead_of_all_else(self):
        # The first LINES have a wrong worth, but the last thing is no fraction.
        places, table = best_paper(TWO_ALIKE, FEE, LESS)
        wrong = put(put(table, 0, (77, 1)), len(table) - 1, (2, 2))
        self.assert_refused(TWO_ALIKE, FEE, LESS, (places, wrong), "shape")
        self.assert_refused(TWO_ALIKE, FEE, LESS, (put(places, 8, 2), put(table, 0, (77, 1))), "shape")


class WorthTest(CheckerCase):
    def test_one_worth_changed(self):
        # With a less of 0 a worth is asked by its own LINES alone; but the prices of those ahead may hang on it.
        for hall in (ONE_SERVER, TWO_UNLIKE, LARGE):
            places, table = flat_paper(hall, FEE)
            for at in range(0, len(table), 1 + len(table) // 40):
                wrong = put(table, at, (table[at][0] * 7 + 1, 7))
                fault = self.assert_as_told(hall, FEE, (0, 1), (places, wrong))
                self.assertIsNotNone(fault)
                self.assertLessEqual(fault[1], at)

    def test_each_number_of_one_line(self):
        # Of one line no price is lesser, so the table with one LINES' own cost changed is amiss just there.
        for hall in (ONE_SERVER, ONE_MOVED):
            many = len(all_lines(hall))
            for at in range(many):
                wrong = changed_cost(hall, FEE, LESS, (0,) * many, at, Fraction(1, 7))
                self.assertEqual(first_amiss(hall, FEE, LESS, ((0,) * many, wrong)), ("worth", at))
                self.assert_refused(hall, FEE, LESS, ((0,) * many, wrong), "worth", at)

    def test_each_number_of_several_lines(self):
        seen = set()
        for hall in (TWO_UNLIKE, THREE_SMALL):
            places, table = best_paper(hall, FEE, LESS)
            for at in range(len(places)):
                for much in (Fraction(1, 10 ** 9), Fraction(-1, 10 ** 9)):
                    wrong = changed_cost(hall, FEE, LESS, places, at, much)
                    fault = self.assert_as_told(hall, FEE, LESS, (places, wrong))
                    self.assertIsNotNone(fault)
                    seen.add((len(places),) + fault)
        self.assertLessEqual({(14, "worth", at) for at in range(14)}, seen)

    def test_several_amiss(self):
        for hall in HALLS[:8]:
            dice = random.Random(len(hall[1]))
            places, table = best_paper(hall, FEE, LESS)
            for _ in range(8):
                wrong = table
                for at in dice.sample(range(len(table)), 2):
                    wrong = put(wrong, at, pair(number(wrong[at]) + Fraction(dice.randrange(1, 9), 10 ** 30)))
                self.assertIsNotNone(self.assert_as_told(hall, FEE, LESS, (places, wrong)))

    def test_all_a_little_more(self):
        for hall in HALLS[:8]:
            places, table = best_paper(hall, FEE, LESS)
            for much in (Fraction(1, 10 ** 300), Fraction(-1), Fraction(10 ** 39)):
                wrong = tuple(pair(number(worth) + much) for worth in table)
                self.assert_refused(hall, FEE, LESS, (places, wrong), "worth", 0)

    def test_tables_below_0_and_of_any_size(self):
        for hall in (ONE_SERVER, TWO_ALIKE, THREE_UNLIKE):
            many = len(all_lines(hall))
            for worth in ((-1, 1), (0, 1), (1, 1), (10 ** 5000 + 1, 10 ** 5000), (-(10 ** 5000), 3)):
                self.assert_as_told(hall, FEE, LESS, ((0,) * many, (worth,) * many))

    def test_another_fee(self):
        for hall in HALLS[:8]:
            paper = best_paper(hall, FEE, LESS)
            for fee in ((0, 1), (14999, 10000), (10000, 1)):
                self.assertEqual(self.assert_as_told(hall, fee, LESS, paper)[0], "worth")

    def test_another_less(self):
        for hall in HALLS[:8]:
            paper = best_paper(hall, FEE, LESS)
            for less in ((0, 1), (6667, 10000), (9999, 10000)):
                self.assertEqual(self.assert_as_told(hall, FEE, less, paper)[0], "worth")

    def test_askers_moved_otherwise(self):
        for hall in HALLS[2:7]:
            other = with_moved(hall, not hall[2])
            self.assertEqual(self.assert_as_told(other, FEE, LESS, best_paper(hall, FEE, LESS))[0], "worth")
            # With a less of 0 nothing that comes of a turn counts.
            self.assertIsNone(self.assert_as_told(other, FEE, (0, 1), best_paper(hall, FEE, (0, 1))))
        self.assert_let_by(with_moved(ONE_SERVER, True), FEE, LESS, best_paper(ONE_SERVER, FEE, LESS))

    def test_another_hall(self):
        slower = ((1, 3), (((1, 4), 3),), False)
        self.assert_refused(slower, FEE, LESS, best_paper(ONE_SERVER, FEE, LESS), "worth", 1)
        # What is left of a turn counts as a turn, too.
        self.assert_refused(with_rest(TWO_ALIKE), FEE, LESS, best_paper(TWO_ALIKE, FEE, LESS), "worth", 0)


def changed_cost(hall, fee, less, places, at, much):
    """The table that a turn leaves as it is but at number at, where it is so much more: solved by going round."""
    # The told rule's own worths, and what a cost of so much at these LINES adds to each of them.
    lines = all_lines(hall)
    rows = []
    for place, here in enumerate(lines):
        bent = {(there, 0): Fraction(0) for there in lines}
        row = []
        for there in lines:
            bent[(there, 0)] = Fraction(1)
            row.append((here == there) - made_of(hall, ("told", places), (0, 1), less, bent, (here, 0)) + sum(here))
            bent[(there, 0)] = Fraction(0)
        rows.append(row + [much if place == at else Fraction(0)])
    for place in range(len(rows)):
        lead = [value / rows[place][place] for value in rows[place]]
        rows = [
            lead if other == place else [value - row[place] * part for value, part in zip(row, lead)]
            for other, row in enumerate(rows)
        ]
    table = own_table(hall, fee, less, places)
    return tuple(pair(number(worth) + row[-1]) for worth, row in zip(table, rows))


class BetterTest(CheckerCase):
    def test_each_full_line_with_a_less_of_0(self):
        # Prices are then all alike but those of full lines, so each wrong place is amiss just there.
        for sample in (TWO_ALIKE, TWO_UNLIKE, THREE_UNLIKE, FOUR_ALIKE, LARGE):
            for hall in (with_moved(sample, False), with_moved(sample, True)):
                for fee in ((0, 1), (2, 1)):
                    self.assert_wrong_places(hall, fee)

    def assert_wrong_places(self, hall, fee):
        places, table = flat_paper(hall, fee)
        rooms = [room for _, room in hall[1]]
        numbers = []
        for at, lines in enumerate(all_lines(hall)):
            full = [many == room for many, room in zip(lines, rooms)]
            wrong = fee != (0, 1)
            if wrong in full and (not wrong) in full:
                numbers.append((at, full.index(wrong)))
        self.assertGreater(len(numbers), 3)
        for at, line in numbers[::1 + len(numbers) // 30]:
            self.assert_refused(hall, fee, (0, 1), (put(places, at, line), table), "better", at)

    def test_own_worths_that_are_not_the_best(self):
        seen = set()
        for hall in (TWO_ALIKE, TWO_UNLIKE, with_moved(TWO_UNLIKE, True), THREE_SMALL):
            for fee, less in ((FEE, LESS), ((50, 1), (9, 10)), ((0, 1), (9, 10))):
                best = best_paper(hall, fee, less)[1]
                for start in range(6):
                    places = places_of(hall, start)
                    table = own_table(hall, fee, less, places)
                    fault = self.assert_as_told(hall, fee, less, (places, table))
                    self.assertEqual(fault is None, table == best)
                    if fault is not None:
                        self.assertEqual(fault[0], "better")
                        seen.add(fault[1])
        self.assertGreater(len(seen), 3)

    def test_one_wrong_place_with_its_own_worths(self):
        seen = set()
        for hall in (TWO_UNLIKE, THREE_SMALL):
            for fee, less in (((50, 1), (9, 10)), ((0, 1), (9, 10))):
                places, best = best_paper(hall, fee, less)
                for at in range(len(places)):
                    other = put(places, at, (places[at] + 1) % len(hall[1]))
                    table = own_table(hall, fee, less, other)
                    fault = self.assert_as_told(hall, fee, less, (other, table))
                    self.assertEqual(fault is None, table == best)
                    seen.add(fault)
        self.assertLessEqual({("better", at) for at in range(12)}, seen)

    def test_one_wrong_place_with_the_best_worths(self):
        # Then the worth there isn't what a turn makes of it, which goes ahead.
        for hall in (TWO_UNLIKE, THREE_SMALL):
            places, table = best_paper(hall, (50, 1), (9, 10))
            words = set()
            for at in range(len(places)):
                for line in range(len(hall[1])):
                    fault = self.assert_as_told(hall, (50, 1), (9, 10), (put(places, at, line), table))
                    self.assertIn(fault, (None, ("worth", at)))
                    words.add(fault is None)
            self.assertEqual(words, {True, False})

    def test_better_at_lesser_lines_ahead_of_worth(self):
        hall = THREE_SMALL
        places, table = flat_paper(hall, (2, 1))
        lines = all_lines(hall)
        at = lines.index((0, 0, 1))
        wrong = (put(places, at, 2), put(table, len(table) - 1, (4, 3)))
        self.assertEqual(first_amiss(hall, (2, 1), (0, 1), wrong), ("better", at))
        self.assert_refused(hall, (2, 1), (0, 1), wrong, "better", at)
        late = lines.index((1, 2, 0))
        wrong = (put(places, late, 0), put(table, 0, (1, 3)))
        self.assert_refused(hall, (2, 1), (0, 1), wrong, "worth", 0)

    def test_both_at_the_same_lines(self):
        hall = ((1, 2), (((1, 4), 1), ((1, 4), 2)), False)
        places, table = flat_paper(hall, (2, 1))
        at = all_lines(hall).index((1, 0))
        self.assertEqual(table[at], (1, 1))
        # A greater worth there hurts nobody ahead, as void lines tell the second line.
        places = put(places, 0, 1)
        for worth, word in (((1, 1), "better"), ((2, 1), "worth")):
            wrong = (put(places, at, 0), put(table, at, worth))
            self.assertEqual(first_amiss(hall, (2, 1), (0, 1), wrong), (word, at))
            self.assert_refused(hall, (2, 1), (0, 1), wrong, word, at)

    def test_random_papers(self):
        dice = random.Random(5)
        for hall in HALLS[:8] + (FOUR_UNLIKE,):
            many = len(all_lines(hall))
            for _ in range(10):
                places = tuple(dice.randrange(len(hall[1])) for _ in range(many))
                table = tuple((sum(lines) + dice.choice((0, 0, 0, 0, 0, 0, -1)), 1) for lines in all_lines(hall))
                self.assert_as_told(hall, dice.choice(FEES), (0, 1), (places, table))


class SmallTest(CheckerCase):
    def test_nothing_else_is_asked(self):
        # The checker solves nothing: it looks at a paper where the solving part is out of order.
        paper = best_paper(TWO_UNLIKE, FEE, LESS)
        with mock.patch("shorterline.worths.solved", side_effect=AssertionError):
            self.assert_let_by(TWO_UNLIKE, FEE, LESS, paper)

    def test_more_than_sixty_lines_amiss(self):
        places, table = flat_paper(LARGE, (2, 1))
        for at in (0, 61, 200, 342):
            wrong = put(table, at, (table[at][0] + 1, 1))
            self.assertIsNotNone(self.assert_as_told(LARGE, (2, 1), (0, 1), (places, wrong)))
        places, table = flat_paper(LARGEST, (2, 1))
        last = len(table) - 1
        self.assert_refused(LARGEST, (2, 1), (0, 1), (put(places, last - 1, 0), table), "better", last - 1)
        # One more there is just what turning away costs those ahead, so none of their prices is lesser.
        self.assert_refused(LARGEST, (2, 1), (0, 1), (places, put(table, last, (25, 1))), "worth", last)


if __name__ == "__main__":
    unittest.main()
