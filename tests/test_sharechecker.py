"""Promises 40 and 5: the small checker of share papers."""

import copy
import random
import unittest
from fractions import Fraction
from unittest import mock

from samples import (
    FOUR_ALIKE, FOUR_UNLIKE, HALLS, LARGE, LARGEST, ODD_THINGS, ONE_SERVER, SIXTY_ONE, THREE_ALIKE, THREE_UNLIKE,
    TWO_ALIKE, TWO_MOVED, TWO_UNLIKE, left, number, pair, papers, product_paper, rules_of, with_moved,
)
from shorterline.errors import LineError, NoShares
from shorterline.moves import first_stand, is_stand
from shorterline.sharechecker import lets_shares
from shorterline.sharing import shares_of

RANDOM = ("random",)
LEAST = ("least",)
TURNS = ("turns",)

WHOLE = (1, 1)


def sum_of(paper):
    return sum(number(share) for _, share in paper)


def scaled(paper):
    """The paper with its shares 1 together again."""
    whole = sum_of(paper)
    return tuple((stand, pair(number(share) / whole)) for stand, share in paper)


def shifted(paper, one, other, part):
    """The paper with a part of the share of number one given to number other."""
    shares = [number(share) for _, share in paper]
    given = shares[one] * part
    shares[one] -= given
    shares[other] += given
    return tuple((stand, pair(share)) for (stand, _), share in zip(paper, shares))


def first_amiss(hall, rule, paper):
    """What promise 40 tells of a paper of right shape."""
    if sum_of(paper) != 1:
        return ("sum", -1)
    behind = left(hall, rule, {stand: number(share) for stand, share in paper})
    for at, (stand, share) in enumerate(paper):
        if behind.get(stand, 0) != number(share):
            return ("turn", at)
    return None


def solved(rows):
    """The one solution of as many rows as unknowns, each row its numbers and what they are together."""
    rows = [[Fraction(value) for value in row] for row in rows]
    for at in range(len(rows)):
        lead = next(row for row in rows[at:] if row[at] != 0)
        rows.remove(lead)
        lead = [value / lead[at] for value in lead]
        rows = [[value - row[at] * part for value, part in zip(row, lead)] for row in rows]
        rows.insert(at, lead)
    return [row[-1] for row in rows]


def amiss_from(hall, rule, paper, first):
    """A paper of the same stands that a turn leaves as it is at all stands ahead of number first, but not there."""
    stands = [stand for stand, _ in paper]
    flows = [left(hall, rule, {stand: Fraction(1)}) for stand in stands]
    rows = [[1] * len(stands) + [0]]
    for at, stand in enumerate(stands[:-1]):
        row = [flow.get(stand, 0) - (other == at) for other, flow in enumerate(flows)]
        rows.append(row + [1 if at == first else 0])
    bend = solved(rows)
    shares = [number(share) for _, share in paper]
    size = min(share / abs(turned) for share, turned in zip(shares, bend) if turned) / 2
    return tuple((stand, pair(share + size * turned)) for stand, share, turned in zip(stands, shares, bend))


class CheckerCase(unittest.TestCase):
    def assert_let_by(self, hall, rule, thing):
        kept = copy.deepcopy((hall, rule, thing))
        self.assertIs(lets_shares(hall, rule, thing), True)
        self.assertEqual((hall, rule, thing), kept)

    def assert_refused(self, hall, rule, thing, word, place=-1):
        kept = copy.deepcopy((hall, rule, thing))
        with self.assertRaises(NoShares) as caught:
            lets_shares(hall, rule, thing)
        self.assertIs(type(caught.exception), NoShares)
        self.assertIsInstance(caught.exception, LineError)
        self.assertEqual((caught.exception.word, caught.exception.number), (word, place), thing)
        self.assertIs(type(caught.exception.number), int)
        self.assertEqual((hall, rule, thing), kept)
        self.assertEqual(repr((hall, rule, thing)), repr(kept))


class LetByTest(CheckerCase):
    def test_told_papers(self):
        seen = set()
        for hall, rule, paper in papers():
            self.assert_let_by(hall, rule, paper)
            seen.add((len(hall[1]), rule[0]))
        words = ("random", "two", "least", "quick", "told")
        self.assertLessEqual({(many, word) for many in (1, 2, 3, 4) for word in words}, seen)
        self.assertLessEqual({(many, "turns") for many in (1, 2, 3)}, seen)

    def test_four_lines_by_turns(self):
        # Here more than sixty stands always come.
        for hall in (FOUR_ALIKE, FOUR_UNLIKE):
            with mock.patch("shorterline.turnings.MOST_STANDS", 1000):
                paper = shares_of(hall, TURNS)
            self.assertGreater(len(paper), 60)
            self.assert_let_by(hall, TURNS, paper)

    def test_papers_made_by_hand(self):
        self.assert_let_by(
            ONE_SERVER, TURNS,
            ((((0,), 0), (27, 65)), (((1,), 0), (18, 65)), (((2,), 0), (12, 65)), (((3,), 0), (8, 65))),
        )
        hall = ((1, 2), (((1, 4), 1), ((1, 4), 1)), False)
        self.assert_let_by(
            hall, ("two",),
            ((((0, 0), 0), (1, 5)), (((0, 1), 0), (1, 5)), (((1, 0), 0), (1, 5)), (((1, 1), 0), (2, 5))),
        )

    def test_more_than_sixty_stands(self):
        paper = product_paper(LARGE)
        self.assertEqual(len(paper), 343)
        self.assert_let_by(LARGE, RANDOM, paper)
        paper = product_paper(LARGEST)
        self.assertEqual(len(paper), 2401)
        self.assert_let_by(LARGEST, RANDOM, paper)


class ShapeTest(CheckerCase):
    def test_other_kinds(self):
        for hall in HALLS:
            for rule in rules_of(hall):
                stand = first_stand(hall)
                for thing in ODD_THINGS:
                    self.assert_refused(hall, rule, thing, "shape")
                    self.assert_refused(hall, rule, (thing,), "shape")
                    self.assert_refused(hall, rule, ((thing, WHOLE),), "shape")
                    self.assert_refused(hall, rule, ((stand, thing),), "shape")
                    self.assert_refused(hall, rule, ((stand, WHOLE), thing), "shape")

    def test_void(self):
        for hall in HALLS:
            for rule in rules_of(hall):
                self.assert_refused(hall, rule, (), "shape")

    def test_lists_for_tuples(self):
        for hall, rule, paper in papers():
            self.assert_refused(hall, rule, list(paper), "shape")
            for at in {0, len(paper) // 2, len(paper) - 1}:
                (lines, turn), share = paper[at]
                for wrong in (
                    [(lines, turn), share], ([lines, turn], share), ((list(lines), turn), share),
                    ((lines, turn), list(share)),
                ):
                    self.assert_refused(hall, rule, paper[:at] + (wrong,) + paper[at + 1:], "shape")

    def test_dicts_and_longer_ones(self):
        paper = shares_of(TWO_ALIKE, LEAST)
        self.assert_refused(TWO_ALIKE, LEAST, dict(paper), "shape")
        self.assert_refused(TWO_ALIKE, LEAST, (paper,), "shape")
        for at, (stand, share) in enumerate(paper):
            for wrong in ((stand, share, share), (stand,), (share, stand), stand + (share,), (stand + (0,), share),
                          (stand[0], share), (stand, share + (1,)), (stand, share[:1]), (stand, share[0]), None):
                self.assert_refused(TWO_ALIKE, LEAST, paper[:at] + (wrong,) + paper[at + 1:], "shape")

    def test_truths_for_numbers(self):
        hall = ((1, 2), (((1, 4), 1), ((1, 4), 1)), False)
        paper = shares_of(hall, RANDOM)
        self.assertEqual(paper, ((((0, 0), 0), (1, 4)), (((0, 1), 0), (1, 4)), (((1, 0), 0), (1, 4)), (((1, 1), 0), (1, 4))))
        for at, wrong in (
            (0, (((False, 0), 0), (1, 4))), (0, (((0, 0), False), (1, 4))), (0, (((0, 0), 0), (True, 4))),
            (1, (((0, True), 0), (1, 4))), (3, (((1, True), 0), (1, 4))), (3, (((1, 1), False), (1, 4))),
        ):
            self.assertEqual(paper[:at] + (wrong,) + paper[at + 1:], paper)
            self.assert_refused(hall, RANDOM, paper[:at] + (wrong,) + paper[at + 1:], "shape")
        self.assert_refused(hall, RANDOM, ((((0, 0), 0), (1, True)),), "shape")
        turns = shares_of(TWO_ALIKE, TURNS)
        at = [stand for stand, _ in turns].index(((0, 0), 1))
        wrong = ((((0, 0), True), turns[at][1]),)
        self.assertEqual(turns[:at] + wrong + turns[at + 1:], turns)
        self.assert_refused(TWO_ALIKE, TURNS, turns[:at] + wrong + turns[at + 1:], "shape")

    def test_shares_that_are_none(self):
        for hall, rule, paper in papers():
            for at in {0, len(paper) // 2, len(paper) - 1}:
                stand, (top, bottom) = paper[at]
                for wrong in (
                    (0, 1), (-top, bottom), (-1, 1), (2 * top, 2 * bottom), (-top, -bottom), (top, 0), (0, bottom),
                    (1, 0), (0, 0), (top, -bottom), (str(top), bottom), (top, None),
                ):
                    if wrong != (0, 1):
                        self.assertNotEqual(wrong, paper[at][1])
                    self.assert_refused(hall, rule, paper[:at] + ((stand, wrong),) + paper[at + 1:], "shape")

    def test_a_share_of_0_put_in(self):
        paper = shares_of(TWO_MOVED, RANDOM)
        self.assertNotIn(((0, 2), 0), dict(paper))
        self.assert_refused(TWO_MOVED, RANDOM, tuple(sorted(paper + ((((0, 2), 0), (0, 1)),))), "shape")

    def test_a_stand_twice(self):
        for hall, rule, paper in papers():
            for at in {0, len(paper) // 2, len(paper) - 1}:
                stand, share = paper[at]
                half = ((stand, pair(number(share) / 2)),) * 2
                self.assert_refused(hall, rule, paper[:at] + half + paper[at + 1:], "shape")
                self.assert_refused(hall, rule, paper[:at + 1] + paper[at:], "shape")

    def test_not_rising(self):
        for hall, rule, paper in papers():
            self.assert_refused(hall, rule, paper[::-1], "shape")
            self.assert_refused(hall, rule, paper[1:] + paper[:1], "shape")
            self.assert_refused(hall, rule, paper[:-2] + paper[:-3:-1], "shape")

    def test_rising_by_stands_not_by_shares(self):
        paper = shares_of(ONE_SERVER, LEAST)
        self.assert_refused(ONE_SERVER, LEAST, tuple(sorted(paper, key=lambda one: number(one[1]))), "shape")

    def test_beyond_a_room(self):
        for hall, rule, paper in papers():
            for at, (_, room) in enumerate(hall[1]):
                lines = list(first_stand(hall)[0])
                lines[at] = room + 1
                wrong = tuple(sorted(paper + (((tuple(lines), 0), (1, 2)),)))
                self.assert_refused(hall, rule, wrong, "shape")
                lines[at] = -1
                wrong = tuple(sorted(paper + (((tuple(lines), 0), (1, 2)),)))
                self.assert_refused(hall, rule, wrong, "shape")
            wrong = tuple(sorted(paper + (((first_stand(hall)[0] + (0,), 0), (1, 2)),)))
            self.assert_refused(hall, rule, wrong, "shape")

    def test_turns(self):
        for hall, rule, paper in papers():
            stand = (first_stand(hall)[0], 1)
            if rule == TURNS and len(hall[1]) > 1:
                self.assertIs(is_stand(hall, rule, stand), True)
                stand = (stand[0], len(hall[1]))
            self.assert_refused(hall, rule, tuple(sorted(paper + ((stand, (1, 2)),))), "shape")
            self.assert_refused(hall, rule, ((stand, WHOLE),), "shape")
        paper = shares_of(TWO_ALIKE, TURNS)
        self.assert_refused(TWO_ALIKE, LEAST, paper, "shape")

    def test_ahead_of_sum_and_turn(self):
        stand = first_stand(TWO_ALIKE)
        self.assert_refused(TWO_ALIKE, LEAST, ((stand, (1, 2)), (stand, (1, 3))), "shape")
        self.assert_refused(TWO_ALIKE, LEAST, ((stand, (1, 2)), (((2, 2), 0), (2, 4))), "shape")
        self.assert_refused(TWO_ALIKE, LEAST, ((stand, (1, 2)), (((3, 0), 0), (1, 2))), "shape")
        self.assert_refused(TWO_ALIKE, LEAST, ((((1, 0), 0), (1, 2)), (stand, (1, 7))), "shape")


class SumTest(CheckerCase):
    def test_not_1_together(self):
        for hall, rule, paper in papers():
            for at in {0, len(paper) // 2, len(paper) - 1}:
                stand, share = paper[at]
                for more in (Fraction(1, 7), Fraction(1, 10 ** 60), -number(share) / 2, Fraction(1)):
                    wrong = (stand, pair(number(share) + more))
                    self.assert_refused(hall, rule, paper[:at] + (wrong,) + paper[at + 1:], "sum")

    def test_all_shares_grown_alike(self):
        # A turn leaves these as they are, but they are not 1 together.
        for hall, rule, paper in papers():
            for times in (2, Fraction(1, 2), Fraction(10 ** 50 + 1, 10 ** 50)):
                wrong = tuple((stand, pair(number(share) * times)) for stand, share in paper)
                self.assert_refused(hall, rule, wrong, "sum")

    def test_left_out_and_put_in(self):
        for hall, rule, paper in papers():
            for at in range(len(paper)):
                self.assert_refused(hall, rule, paper[:at] + paper[at + 1:], "sum")
        paper = shares_of(TWO_MOVED, RANDOM)
        self.assert_refused(TWO_MOVED, RANDOM, tuple(sorted(paper + ((((0, 2), 0), (1, 100)),))), "sum")

    def test_ahead_of_turn(self):
        self.assert_refused(TWO_ALIKE, LEAST, ((first_stand(TWO_ALIKE), (1, 2)),), "sum")
        self.assert_refused(TWO_ALIKE, LEAST, ((first_stand(TWO_ALIKE), (2, 1)),), "sum")
        self.assert_refused(TWO_ALIKE, LEAST, ((((1, 2), 0), (1, 2)), (((2, 2), 0), (1, 3))), "sum")


class TurnTest(CheckerCase):
    def assert_as_told(self, hall, rule, paper):
        """Of a paper of right shape, what promise 40 tells of it."""
        fault = first_amiss(hall, rule, paper)
        if fault is None:
            self.assert_let_by(hall, rule, paper)
        else:
            self.assert_refused(hall, rule, paper, *fault)
        return fault

    def test_each_number_of_a_stand(self):
        for hall, rule in (
            (ONE_SERVER, LEAST), (TWO_ALIKE, LEAST), (TWO_ALIKE, TURNS), (TWO_MOVED, RANDOM), (THREE_UNLIKE, RANDOM),
            (TWO_UNLIKE, ("quick",)),
        ):
            paper = shares_of(hall, rule)
            for first in range(len(paper) - 1):
                wrong = amiss_from(hall, rule, paper, first)
                self.assertEqual(sum_of(wrong), 1)
                self.assertEqual(first_amiss(hall, rule, wrong), ("turn", first))
                self.assert_refused(hall, rule, wrong, "turn", first)

    def test_last_stand_alone(self):
        # The paper of a smaller room: only the last stand loses what goes beyond it.
        for room in range(1, 6):
            smaller = ((1, 3), (((1, 2), room),), False)
            larger = ((1, 3), (((1, 2), room + 1),), False)
            self.assert_refused(larger, LEAST, shares_of(smaller, LEAST), "turn", room)

    def test_several_amiss(self):
        for hall, rule, paper in papers():
            dice = random.Random(len(paper))
            for _ in range(6):
                one, other = dice.sample(range(len(paper)), 2)
                wrong = shifted(paper, one, other, Fraction(1, dice.randrange(2, 10 ** 9)))
                fault = self.assert_as_told(hall, rule, wrong)
                self.assertEqual(fault[0], "turn")

    def test_a_little_amiss(self):
        for hall, rule, paper in papers():
            wrong = shifted(paper, 0, len(paper) - 1, Fraction(1, 10 ** 300))
            self.assertEqual(self.assert_as_told(hall, rule, wrong)[0], "turn")

    def test_all_shares_alike(self):
        for hall, rule, paper in papers():
            flat = tuple((stand, (1, len(paper))) for stand, _ in paper)
            self.assert_as_told(hall, rule, flat)
            paper = tuple((stand, share) for (stand, _), (_, share) in zip(paper, paper[::-1]))
            self.assert_as_told(hall, rule, paper)

    def test_one_stand_alone(self):
        for hall in HALLS:
            for rule in rules_of(hall):
                self.assert_refused(hall, rule, ((first_stand(hall), WHOLE),), "turn", 0)

    def test_left_out(self):
        for hall, rule, paper in papers():
            for at in range(0, len(paper), 3):
                wrong = scaled(paper[:at] + paper[at + 1:])
                self.assertEqual(self.assert_as_told(hall, rule, wrong)[0], "turn")

    def test_put_in(self):
        # A stand that no move leads to, first, amidst and last.
        paper = shares_of(TWO_MOVED, RANDOM)
        for lines in ((0, 2), (0, 3), (2, 0), (3, 0)):
            wrong = scaled(tuple(sorted(paper + (((lines, 0), (1, 9)),))))
            self.assertEqual(self.assert_as_told(TWO_MOVED, RANDOM, wrong)[0], "turn")
        # Nobody is ever sent to the second line, so two never come there.
        hall = ((1, 2), (((1, 4), 1), ((1, 4), 2)), False)
        rule = ("told", (0,) * 6)
        paper = shares_of(hall, rule)
        wrong = scaled(tuple(sorted(paper + ((((1, 2), 0), (1, 9)),))))
        self.assertEqual(self.assert_as_told(hall, rule, wrong)[0], "turn")

    def test_another_rule(self):
        for hall in HALLS:
            for one in rules_of(hall):
                if one == TURNS:
                    continue
                for other in rules_of(hall):
                    if other == TURNS:
                        continue
                    fault = self.assert_as_told(hall, one, shares_of(hall, other))
                    self.assertEqual(fault is None, shares_of(hall, one) == shares_of(hall, other))

    def test_askers_moved_or_not(self):
        for hall in (TWO_ALIKE, TWO_MOVED, TWO_UNLIKE, THREE_ALIKE, THREE_UNLIKE):
            for rule in rules_of(hall)[:1] + rules_of(hall)[2:]:
                fault = self.assert_as_told(with_moved(hall, not hall[2]), rule, shares_of(hall, rule))
                self.assertEqual(fault is None, shares_of(hall, rule) == shares_of(with_moved(hall, not hall[2]), rule))
        self.assert_let_by(with_moved(ONE_SERVER, True), LEAST, shares_of(ONE_SERVER, LEAST))

    def test_another_hall(self):
        slower = ((1, 3), (((1, 4), 3),), False)
        self.assert_refused(slower, LEAST, shares_of(ONE_SERVER, LEAST), "turn", 0)

    def test_more_than_sixty_stands(self):
        paper = product_paper(LARGE)
        wrong = shifted(paper, 342, 341, Fraction(1, 2))
        fault = first_amiss(LARGE, RANDOM, wrong)
        self.assertEqual(fault[0], "turn")
        self.assertGreater(fault[1], 60)
        self.assert_refused(LARGE, RANDOM, wrong, *fault)
        self.assert_refused(LARGE, RANDOM, paper[:-1], "sum")
        self.assert_refused(LARGE, RANDOM, paper + paper[-1:], "shape")
        self.assertEqual(self.assert_as_told(LARGE, LEAST, paper)[0], "turn")
        self.assertEqual(self.assert_as_told(with_moved(LARGE, True), RANDOM, paper)[0], "turn")

    def test_halls_of_more_than_sixty_coming(self):
        # The hall's own paper would be refused with TooMany; another one is just looked at.
        self.assert_refused(SIXTY_ONE, RANDOM, ((first_stand(SIXTY_ONE), WHOLE),), "turn", 0)
        self.assert_refused(LARGE, TURNS, ((first_stand(LARGE), WHOLE),), "turn", 0)


if __name__ == "__main__":
    unittest.main()
