"""Promises 30 and 20: what a turn leaves, which stands come, what several turns leave."""

import copy
import unittest
from fractions import Fraction
from unittest import mock

from samples import (
    FOUR_UNLIKE, HALLS, LARGE, LARGEST, ONE_SERVER, SIXTY, SIXTY_ONE, THREE_UNLIKE, TWO_ALIKE, TWO_MOVED, TWO_UNLIKE,
    left, lines_turned, moves_of, number, places_of, rule_turned, rules_of, share_of, stands_of, told, told_by,
    with_moved, with_rest, without_rest,
)
from shorterline.errors import LineError, TooMany
from shorterline.fractions import is_fraction
from shorterline.halls import all_lines, hall_turned, is_hall
from shorterline.moves import all_orders, first_stand, is_stand, moved_on
from shorterline.rules import is_rule
from shorterline.turnings import left_by_turn, left_by_turns, stands_coming

RANDOM = ("random",)
LEAST = ("least",)
TURNS = ("turns",)


def filled(lines, rooms):
    """The first line that isn't full, else the first one."""
    for line, room in enumerate(rooms):
        if lines[line] < room:
            return line
    return 0


class TurningCase(unittest.TestCase):
    def assert_shares(self, hall, rule, shares):
        self.assertIs(type(shares), tuple)
        stands = [stand for stand, _ in shares]
        self.assertEqual(stands, sorted(set(stands)))
        for one in shares:
            self.assertIs(type(one), tuple)
            self.assertIs(is_stand(hall, rule, one[0]), True)
            self.assertIs(is_fraction(one[1]), True)
            self.assertGreater(one[1][0], 0)
        self.assertEqual(sum(number(share) for _, share in shares), 1)


class LeftByTurnTest(TurningCase):
    def test_all_stands_with_and_without_a_rest(self):
        for sample in HALLS[:8]:
            for hall in (sample, with_rest(sample), without_rest(sample), with_moved(sample, not sample[2])):
                self.assertIs(is_hall(hall), True)
                for rule in rules_of(hall):
                    for stand in stands_of(hall, rule):
                        shares = left_by_turn(hall, rule, stand)
                        self.assert_shares(hall, rule, shares)
                        self.assertEqual(shares, told(left(hall, rule, {stand: 1})), (hall, rule, stand))

    def test_four_unlike(self):
        hall = HALLS[8]
        for rule in rules_of(hall):
            for stand in stands_of(hall, rule):
                shares = left_by_turn(hall, rule, stand)
                self.assert_shares(hall, rule, shares)
                self.assertEqual(shares, told(left(hall, rule, {stand: 1})))

    def test_by_hand(self):
        self.assertEqual(left_by_turn(ONE_SERVER, LEAST, ((0,), 0)), ((((0,), 0), (2, 3)), (((1,), 0), (1, 3))))
        self.assertEqual(
            left_by_turn(ONE_SERVER, LEAST, ((1,), 0)), ((((0,), 0), (1, 2)), (((1,), 0), (1, 6)), (((2,), 0), (1, 3)))
        )
        self.assertEqual(left_by_turn(ONE_SERVER, LEAST, ((3,), 0)), ((((2,), 0), (1, 2)), (((3,), 0), (1, 2))))
        self.assertEqual(
            left_by_turn(TWO_ALIKE, RANDOM, ((1, 0), 0)),
            ((((0, 0), 0), (1, 4)), (((1, 0), 0), (1, 4)), (((1, 1), 0), (1, 4)), (((2, 0), 0), (1, 4))),
        )
        self.assertEqual(
            left_by_turn(TWO_ALIKE, LEAST, ((1, 0), 0)),
            ((((0, 0), 0), (1, 4)), (((1, 0), 0), (1, 4)), (((1, 1), 0), (1, 2))),
        )

    def test_still_where_something_of_a_turn_is_left_alone(self):
        # At these lines each server has somebody and an asker is taken, so only still leaves the stand as it is.
        for stand in (((1, 1), 0), ((1, 2), 0)):
            self.assertNotIn(stand, dict(left_by_turn(TWO_ALIKE, LEAST, stand)))
            self.assertEqual(dict(left_by_turn(with_rest(TWO_ALIKE), LEAST, stand))[stand], (1, 2))

    def test_stands_that_no_move_leads_to(self):
        self.assertEqual(
            left_by_turn(TWO_MOVED, RANDOM, ((0, 3), 0)),
            ((((1, 1), 0), (1, 4)), (((1, 2), 0), (1, 2)), (((1, 3), 0), (1, 4))),
        )
        self.assertEqual(
            left_by_turn(with_rest(TWO_MOVED), RANDOM, ((0, 3), 0)),
            ((((1, 1), 0), (1, 8)), (((1, 2), 0), (3, 4)), (((1, 3), 0), (1, 8))),
        )
        # Void lines with another turn than 0, and lines that no such turn goes with.
        self.assertEqual(
            left_by_turn(TWO_ALIKE, TURNS, ((0, 0), 1)), ((((0, 0), 1), (1, 2)), (((0, 1), 0), (1, 2)))
        )

    def test_rules_differ(self):
        stand = ((0, 2, 1, 0), 0)
        self.assertEqual(len({left_by_turn(FOUR_UNLIKE, rule, stand) for rule in rules_of(FOUR_UNLIKE)}), 6)

    def test_nothing_is_changed_and_asked_again(self):
        for hall in (TWO_MOVED, THREE_UNLIKE):
            for rule in rules_of(hall):
                kept = copy.deepcopy((hall, rule))
                once = left_by_turn(hall, rule, first_stand(hall))
                self.assertEqual(left_by_turn(hall, rule, first_stand(hall)), once)
                self.assertEqual((hall, rule), kept)

    def test_turned_hall(self):
        for sample in HALLS:
            hall = with_moved(sample, False)
            for rule in (("random",), ("two",), ("least",), ("quick",), ("told", places_of(hall))):
                for order in all_orders(hall):
                    turned, other = hall_turned(hall, order), rule_turned(hall, rule, order)
                    for lines in all_lines(hall)[::5]:
                        expected = sorted(
                            ((lines_turned(to, order), 0), share) for (to, _), share in left_by_turn(hall, rule, (lines, 0))
                        )
                        shares = left_by_turn(turned, other, (lines_turned(lines, order), 0))
                        self.assertEqual(list(shares), expected)


def coming(hall, rule):
    """All stands that come, by moves of share above 0 again and again."""
    found = {first_stand(hall)}
    while True:
        more = found | {
            moved_on(hall, rule, stand, move)[0]
            for stand in found for move in moves_of(hall) if share_of(hall, move) > 0
        }
        if more == found:
            return sorted(found)
        found = more


class StandsComingTest(TurningCase):
    def assert_too_many(self, hall, rule):
        with self.assertRaises(TooMany) as caught:
            stands_coming(hall, rule)
        self.assertIs(type(caught.exception), TooMany)
        self.assertIsInstance(caught.exception, LineError)
        self.assertEqual(caught.exception.word, "stands")

    def test_halls_and_rules(self):
        for hall in HALLS:
            for moved in (False, True):
                hall = with_moved(hall, moved)
                for rule in rules_of(hall):
                    expected = coming(hall, rule)
                    if len(expected) > 60:
                        self.assert_too_many(hall, rule)
                    else:
                        stands = stands_coming(hall, rule)
                        self.assertIs(type(stands), list)
                        self.assertEqual(stands, expected)
                        self.assertTrue(all(is_stand(hall, rule, stand) for stand in stands))

    def test_by_hand(self):
        self.assertEqual(stands_coming(ONE_SERVER, TURNS), [((0,), 0), ((1,), 0), ((2,), 0), ((3,), 0)])
        self.assertEqual(
            stands_coming(TWO_MOVED, RANDOM),
            [((0, 0), 0), ((0, 1), 0), ((1, 0), 0), ((1, 1), 0), ((1, 2), 0), ((1, 3), 0), ((2, 1), 0), ((2, 2), 0),
             ((2, 3), 0), ((3, 1), 0), ((3, 2), 0), ((3, 3), 0)],
        )

    def test_just_sixty(self):
        for hall, rule in (
            (SIXTY, RANDOM), (SIXTY, ("two",)), (((1, 4), (((1, 8), 4), ((1, 8), 5)), False), TURNS),
        ):
            self.assertEqual(stands_coming(hall, rule), coming(hall, rule))
            self.assertEqual(len(stands_coming(hall, rule)), 60)

    def test_sixty_one_and_more(self):
        self.assertEqual(len(coming(SIXTY_ONE, RANDOM)), 61)
        self.assert_too_many(SIXTY_ONE, RANDOM)
        self.assert_too_many(with_moved(SIXTY_ONE, False), RANDOM)
        self.assertLess(len(stands_coming(SIXTY_ONE, LEAST)), 60)
        self.assert_too_many(LARGE, RANDOM)
        self.assert_too_many(LARGEST, RANDOM)
        self.assert_too_many(LARGEST, TURNS)

    def test_told_rules_of_sixty_and_sixty_one(self):
        # Two lines of 49 LINES fill up; at a few of them an asker goes to the third line.
        hall = ((1, 4), (((1, 8), 6), ((1, 8), 6), ((1, 8), 1)), False)

        def rule(corners):
            return told_by(hall, lambda lines: 2 if lines[2] or lines[:2] in corners else filled(lines, (6, 6)))

        self.assertEqual(len(stands_coming(hall, rule(()))), 49)
        self.assertEqual(len(stands_coming(hall, rule(((1, 4), (0, 5))))), 60)
        self.assertEqual(len(coming(hall, rule(((2, 3),)))), 61)
        self.assert_too_many(hall, rule(((2, 3),)))

    def test_few_come_of_many_lines(self):
        self.assertEqual(len(all_lines(LARGE)), 343)
        rule = ("told", (1,) * 343)
        self.assertIs(is_rule(LARGE, rule), True)
        self.assertEqual(stands_coming(LARGE, rule), [((0, many, 0), 0) for many in range(7)])

    def test_told_list_is_the_askers_own(self):
        stands = stands_coming(TWO_ALIKE, LEAST)
        kept = list(stands)
        stands.reverse()
        stands.pop()
        stands.append("x")
        self.assertEqual(stands_coming(TWO_ALIKE, LEAST), kept)

    def test_coming_ones_lead_to_one_another_alone(self):
        for hall in HALLS:
            for rule in rules_of(hall):
                with mock.patch("shorterline.turnings.MOST_STANDS", 10000):
                    stands = stands_coming(hall, rule)
                for stand in stands:
                    self.assertTrue(all(to in stands for to, _ in left_by_turn(hall, rule, stand)))


class LeftByTurnsTest(TurningCase):
    def assert_turns(self, hall, rule, most):
        shares = {first_stand(hall): Fraction(1)}
        for turns in range(most + 1):
            got = left_by_turns(hall, rule, turns)
            if turns in (0, 1, 2, 3, most):
                self.assert_shares(hall, rule, got)
                self.assertEqual(got, told(shares), (hall, rule, turns))
            following = {}
            for stand, share in shares.items():
                for to, part in left_by_turn(hall, rule, stand):
                    following[to] = following.get(to, 0) + share * number(part)
            shares = following

    def test_no_turn(self):
        for hall in HALLS + (LARGE, LARGEST):
            for rule in rules_of(hall):
                self.assertEqual(left_by_turns(hall, rule, 0), ((first_stand(hall), (1, 1)),))

    def test_one_turn(self):
        for hall in HALLS + (LARGE, LARGEST):
            for rule in rules_of(hall):
                self.assertEqual(left_by_turns(hall, rule, 1), left_by_turn(hall, rule, first_stand(hall)))

    def test_twelve_turns(self):
        for hall in HALLS:
            for rule in rules_of(hall):
                self.assert_turns(hall, rule, 12)

    def test_with_and_without_a_rest(self):
        for hall in (with_rest(TWO_MOVED), with_rest(TWO_UNLIKE), without_rest(ONE_SERVER), without_rest(THREE_UNLIKE)):
            for rule in rules_of(hall):
                self.assert_turns(hall, rule, 12)

    def test_more_than_sixty_stands(self):
        for hall, rule in ((LARGE, RANDOM), (with_moved(LARGE, True), RANDOM), (LARGE, TURNS), (SIXTY_ONE, RANDOM)):
            self.assert_turns(hall, rule, 12)
            with self.assertRaises(TooMany):
                stands_coming(hall, rule)
        self.assertGreater(len(left_by_turns(LARGE, RANDOM, 12)), 60)
        self.assertGreater(len(left_by_turns(LARGE, TURNS, 12)), 60)

    def test_largest_hall(self):
        for rule in rules_of(LARGEST):
            shares = left_by_turns(LARGEST, rule, 12)
            self.assert_shares(LARGEST, rule, shares)
        # All lines of twelve askers at most come at random.
        shares = left_by_turns(LARGEST, RANDOM, 12)
        self.assertEqual([stand for stand, _ in shares], [(lines, 0) for lines in all_lines(LARGEST) if sum(lines) <= 12])

    def test_somewhat_beyond_twelve(self):
        self.assert_turns(TWO_ALIKE, LEAST, 15)

    def test_by_hand(self):
        self.assertEqual(
            left_by_turns(ONE_SERVER, LEAST, 2),
            ((((0,), 0), (11, 18)), (((1,), 0), (5, 18)), (((2,), 0), (1, 9))),
        )
        # By turns the second asker goes to the second line.
        self.assertEqual(
            left_by_turns(TWO_ALIKE, TURNS, 2),
            ((((0, 0), 0), (1, 4)), (((0, 0), 1), (1, 8)), (((1, 0), 1), (3, 8)), (((1, 1), 0), (1, 4))),
        )


if __name__ == "__main__":
    unittest.main()
