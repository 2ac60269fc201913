"""Promises 41 and 5: the share paper."""

import unittest
from fractions import Fraction
from unittest import mock

from samples import (
    HALLS, LARGE, LARGEST, ONE_MOVED, ONE_SERVER, SIXTY, SIXTY_ONE, THREE_SMALL, TWO_ALIKE, left, number, pair, papers,
    product_paper, rules_of, told, told_by, with_moved, with_rest, without_rest,
)
from shorterline.errors import LineError, TooMany
from shorterline.fractions import added, is_fraction, multiplied
from shorterline.halls import all_lines, is_hall
from shorterline.sharechecker import lets_shares
from shorterline.sharing import shares_of
from shorterline.turnings import left_by_turn, stands_coming

RANDOM = ("random",)
LEAST = ("least",)
TURNS = ("turns",)

# Many bottoms, so that shares have many figures.
MANY_FIGURES = ((1, 9973), (((997, 9967), 4), ((1999, 9949), 3), ((1777, 9941), 2)), False)


class SharingCase(unittest.TestCase):
    def assert_paper(self, hall, rule):
        """The paper is let by, tells all stands that come, and is what a turn leaves of it."""
        paper = shares_of(hall, rule)
        self.assertIs(type(paper), tuple)
        for one in paper:
            self.assertIs(type(one), tuple)
            self.assertEqual(len(one), 2)
            self.assertIs(is_fraction(one[1]), True)
            self.assertGreater(one[1][0], 0)
        self.assertEqual([stand for stand, _ in paper], stands_coming(hall, rule))
        self.assertEqual(sum(number(share) for _, share in paper), 1)
        self.assertEqual(told(left(hall, rule, {stand: number(share) for stand, share in paper})), paper)
        self.assertIs(lets_shares(hall, rule, paper), True)
        return paper

    def assert_too_many(self, hall, rule):
        with self.assertRaises(TooMany) as caught:
            shares_of(hall, rule)
        self.assertIs(type(caught.exception), TooMany)
        self.assertIsInstance(caught.exception, LineError)
        self.assertEqual(caught.exception.word, "stands")


class SharesOfTest(SharingCase):
    def test_halls_and_rules(self):
        counts = {"told": 0, "refused": 0}
        for hall in HALLS:
            for moved in (False, True):
                hall = with_moved(hall, moved)
                for rule in rules_of(hall):
                    try:
                        stands_coming(hall, rule)
                    except TooMany:
                        self.assert_too_many(hall, rule)
                        counts["refused"] += 1
                    else:
                        self.assert_paper(hall, rule)
                        counts["told"] += 1
        self.assertEqual(sum(counts.values()), 108)
        self.assertGreater(counts["told"], 90)
        self.assertGreater(counts["refused"], 0)

    def test_with_and_without_a_rest(self):
        for sample, rule, paper in papers(HALLS[:8] + (THREE_SMALL,)):
            for hall in (with_rest(sample), without_rest(sample)):
                self.assertIs(is_hall(hall), True)
                # What is left of a turn leaves everything as it is.
                self.assertEqual(self.assert_paper(hall, rule), paper)

    def test_a_turn_leaves_it_by_left_by_turn(self):
        for hall, rule, paper in papers():
            behind = {}
            for stand, share in paper:
                for to, part in left_by_turn(hall, rule, stand):
                    behind[to] = added(behind.get(to, (0, 1)), multiplied(share, part))
            self.assertEqual(tuple(sorted(behind.items())), paper)

    def test_by_hand(self):
        # One line: each number of askers has 2/3 of the share of the one below it.
        self.assertEqual(
            shares_of(ONE_SERVER, LEAST),
            ((((0,), 0), (27, 65)), (((1,), 0), (18, 65)), (((2,), 0), (12, 65)), (((3,), 0), (8, 65))),
        )
        for rule in rules_of(ONE_MOVED):
            whole = sum(Fraction(2, 3) ** many for many in range(7))
            self.assertEqual(
                shares_of(ONE_MOVED, rule),
                tuple((((many,), 0), pair(Fraction(2, 3) ** many / whole)) for many in range(7)),
            )

    def test_two_lines_by_hand(self):
        hall = ((1, 2), (((1, 4), 1), ((1, 4), 1)), False)
        self.assertEqual(
            shares_of(hall, LEAST),
            ((((0, 0), 0), (1, 5)), (((0, 1), 0), (1, 5)), (((1, 0), 0), (1, 5)), (((1, 1), 0), (2, 5))),
        )
        self.assertEqual(shares_of(hall, RANDOM), tuple(((lines, 0), (1, 4)) for lines in all_lines(hall)))
        # All go to the first line, so nobody is ever in the second one.
        self.assertEqual(shares_of(hall, ("told", (0, 0, 0, 0))), ((((0, 0), 0), (1, 3)), (((1, 0), 0), (2, 3))))

    def test_random_lines_go_by_themselves(self):
        for hall in HALLS:
            hall = with_moved(hall, False)
            self.assertEqual(shares_of(hall, RANDOM), product_paper(hall))

    def test_by_turns_each_turn_is_as_often(self):
        for hall in (TWO_ALIKE, with_moved(TWO_ALIKE, True), with_rest(TWO_ALIKE), THREE_SMALL):
            paper = self.assert_paper(hall, TURNS)
            many = len(hall[1])
            for turn in range(many):
                self.assertEqual(sum(number(share) for stand, share in paper if stand[1] == turn), Fraction(1, many))

    def test_many_figures(self):
        for rule in (RANDOM, ("two",), LEAST, ("quick",)):
            paper = self.assert_paper(MANY_FIGURES, rule)
            self.assertGreater(max(share[1] for _, share in paper), 10 ** 60)

    def test_asked_again(self):
        for rule in rules_of(TWO_ALIKE):
            self.assertEqual(shares_of(TWO_ALIKE, rule), shares_of(TWO_ALIKE, rule))


class ManyStandsTest(SharingCase):
    def test_just_sixty(self):
        for hall, rule in (
            (SIXTY, RANDOM), (SIXTY, ("two",)), (((1, 4), (((1, 8), 4), ((1, 8), 5)), False), TURNS),
        ):
            self.assertEqual(len(self.assert_paper(hall, rule)), 60)

    def test_more_than_sixty(self):
        self.assert_too_many(SIXTY_ONE, RANDOM)
        self.assert_too_many(LARGE, RANDOM)
        self.assert_too_many(LARGE, TURNS)
        self.assert_too_many(LARGEST, LEAST)

    def test_sixty_one_is_refused_for_its_count_alone(self):
        with mock.patch("shorterline.turnings.MOST_STANDS", 61):
            self.assertEqual(len(self.assert_paper(SIXTY_ONE, RANDOM)), 61)
        self.assert_too_many(SIXTY_ONE, RANDOM)

    def test_few_come_of_many_lines(self):
        self.assertEqual(len(all_lines(LARGE)), 343)
        paper = self.assert_paper(LARGE, ("told", (1,) * 343))
        whole = sum(Fraction(1, 2) ** many for many in range(7))
        self.assertEqual(
            paper, tuple((((0, many, 0), 0), pair(Fraction(1, 2) ** many / whole)) for many in range(7))
        )
        # The second line is asked where the first one has two.
        rule = told_by(LARGE, lambda lines: 0 if lines[0] < 2 else 1)
        self.assertEqual(len(self.assert_paper(LARGE, rule)), 21)


if __name__ == "__main__":
    unittest.main()
