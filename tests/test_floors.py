"""Promise 24: floors."""

import unittest

from samples import (
    HALLS, ONE_SERVER, STILL, THREE_UNLIKE, TWO_ALIKE, TWO_MOVED, come, done, rules_of, run_of, with_moved,
)
from shorterline.errors import LineError, NoBack
from shorterline.floors import Floor
from shorterline.moves import first_stand, is_run, is_stand, moved_on
from shorterline.runs import counted, stays, walked

RANDOM = ("random",)


def all_told(floor):
    return (floor.stand_now(), floor.counts_now(), floor.run_so_far(), floor.askers())


class FloorCase(unittest.TestCase):
    def assert_floor(self, floor, hall, rule, run):
        """The floor shows what the run leads to."""
        self.assertEqual(floor.run_so_far(), run)
        self.assertEqual(floor.stand_now(), walked(hall, rule, run)[-1])
        self.assertEqual(floor.counts_now(), counted(hall, rule, run))
        askers = floor.askers()
        self.assertEqual(tuple(len(line) for line in askers), floor.stand_now()[0])
        there = [number for number, stay in enumerate(stays(hall, rule, run)) if stay is not None and not stay[1]]
        self.assertEqual(sorted(sum(askers, ())), there)

    def assert_no_back(self, floor):
        kept = all_told(floor)
        with self.assertRaises(NoBack) as caught:
            floor.back()
        self.assertIs(type(caught.exception), NoBack)
        self.assertIsInstance(caught.exception, LineError)
        self.assertEqual(all_told(floor), kept)


class AlongARunTest(FloorCase):
    def test_at_first(self):
        for hall in HALLS:
            for rule in rules_of(hall):
                floor = Floor(hall, rule)
                self.assert_floor(floor, hall, rule, ())
                self.assertEqual(floor.stand_now(), first_stand(hall))
                self.assertEqual(floor.counts_now(), (0, 0, 0, 0))
                self.assertEqual(floor.run_so_far(), ())
                self.assertEqual(floor.askers(), ((),) * len(hall[1]))

    def test_all_halls_and_rules(self):
        for hall in HALLS:
            for moved in (False, True):
                hall = with_moved(hall, moved)
                for rule in rules_of(hall):
                    run = run_of(hall, 40, 21, 3)
                    floor = Floor(hall, rule)
                    for at, move in enumerate(run):
                        word = moved_on(hall, rule, floor.stand_now(), move)[1]
                        self.assertEqual(floor.go(move), word)
                        self.assert_floor(floor, hall, rule, run[:at + 1])

    def test_kinds(self):
        for hall in HALLS:
            for rule in rules_of(hall):
                floor = Floor(hall, rule)
                for many in (0, 30):
                    for move in run_of(hall, many, 4, 9):
                        self.assertIs(type(floor.go(move)), str)
                    self.assertIs(is_stand(hall, rule, floor.stand_now()), True)
                    self.assertIs(is_run(hall, floor.run_so_far()), True)
                    self.assertIs(type(floor.counts_now()), tuple)
                    self.assertEqual([type(count) for count in floor.counts_now()], [int] * 4)
                    self.assertIs(type(floor.askers()), tuple)
                    self.assertEqual({type(line) for line in floor.askers()}, {tuple})
                    self.assertTrue(all(type(asker) is int for line in floor.askers() for asker in line))

    def test_words(self):
        floor = Floor(ONE_SERVER, RANDOM)
        moves = (done(0), come(0), come(0), come(0), come(0), STILL, done(0))
        self.assertEqual(
            [floor.go(move) for move in moves], ["none", "taken", "taken", "taken", "away", "none", "served"]
        )
        self.assertEqual(floor.counts_now(), (4, 3, 1, 1))


class AskersTest(FloorCase):
    def assert_askers(self, hall, rule, moves, askers):
        floor = Floor(hall, rule)
        for move, line in zip(moves, askers):
            floor.go(move)
            self.assertEqual(floor.askers(), line, move)

    def test_in_the_order_of_coming(self):
        self.assert_askers(
            TWO_ALIKE, RANDOM,
            (come(0, 1), come(1, 0), come(0, 1), done(0), come(0, 1), done(0), done(0), done(1)),
            (((0,), ()), ((0,), (1,)), ((0, 2), (1,)), ((2,), (1,)), ((2, 3), (1,)), ((3,), (1,)), ((), (1,)), ((), ())),
        )

    def test_those_turned_away_have_their_numbers(self):
        self.assert_askers(
            TWO_ALIKE, RANDOM,
            (come(0, 1), come(0, 1), come(0, 1), come(0, 1), come(1, 0), done(0), come(0, 1)),
            (((0,), ()), ((0, 1), ()), ((0, 1), ()), ((0, 1), ()), ((0, 1), (4,)), ((1,), (4,)), ((1, 5), (4,))),
        )

    def test_moved_to_other_lines(self):
        self.assert_askers(
            TWO_MOVED, RANDOM,
            (come(0, 1), come(0, 1), come(0, 1), come(0, 1), done(1), done(1), done(0)),
            (
                ((0,), ()), ((0,), (1,)), ((0, 2), (1,)), ((0, 2, 3), (1,)), ((0, 2), (3,)), ((0,), (2,)), ((), (2,)),
            ),
        )

    def test_longest_line_of_three(self):
        hall = ((1, 5), (((1, 5), 4),) * 3, True)
        self.assert_askers(
            hall, RANDOM,
            (
                come(1, 0, 2), come(1, 0, 2), come(1, 0, 2), come(2, 0, 1), come(1, 0, 2), come(1, 0, 2),
                done(0), come(0, 1, 2), come(0, 1, 2), done(1), done(1), done(1),
            ),
            (
                ((), (0,), ()), ((1,), (0,), ()), ((1,), (0,), (2,)), ((1,), (0,), (2, 3)), ((1,), (0, 4), (2, 3)),
                ((1,), (0, 4, 5), (2, 3)), ((5,), (0, 4), (2, 3)), ((5, 6), (0, 4), (2, 3)), ((5, 6, 7), (0, 4), (2, 3)),
                ((5, 6, 7), (4,), (2, 3)), ((5, 6), (7,), (2, 3)), ((5,), (6,), (2, 3)),
            ),
        )


class BackTest(FloorCase):
    def test_none_to_take_back(self):
        for hall in HALLS:
            for rule in rules_of(hall):
                self.assert_no_back(Floor(hall, rule))

    def test_all_taken_back(self):
        for hall in HALLS:
            for rule in rules_of(hall):
                run = run_of(hall, 40, 5, 3)
                floor = Floor(hall, rule)
                seen = [all_told(floor)]
                for move in run:
                    floor.go(move)
                    seen.append(all_told(floor))
                while len(seen) > 1:
                    self.assertEqual(all_told(floor), seen.pop())
                    self.assertIsNone(floor.back())
                self.assertEqual(all_told(floor), seen[0])
                self.assert_no_back(floor)
                self.assert_no_back(floor)
                self.assertEqual(floor.go(("come", tuple(range(len(hall[1]))))), "taken")

    def test_moves_that_turn_nothing_are_taken_back_one_by_one(self):
        floor = Floor(TWO_ALIKE, RANDOM)
        for move in (come(0, 1), STILL, done(1), STILL):
            floor.go(move)
        for left in ((come(0, 1), STILL, done(1)), (come(0, 1), STILL), (come(0, 1),), ()):
            floor.back()
            self.assert_floor(floor, TWO_ALIKE, RANDOM, left)
        self.assert_no_back(floor)

    def test_another_move_behind_one_taken_back(self):
        for hall in HALLS:
            for rule in rules_of(hall):
                one, other = run_of(hall, 30, 6, 3), run_of(hall, 30, 7, 5)
                floor = Floor(hall, rule)
                for move in one:
                    floor.go(move)
                for _ in range(12):
                    floor.back()
                self.assert_floor(floor, hall, rule, one[:18])
                for at, move in enumerate(other):
                    word = moved_on(hall, rule, floor.stand_now(), move)[1]
                    self.assertEqual(floor.go(move), word)
                    self.assert_floor(floor, hall, rule, one[:18] + other[:at + 1])

    def test_turns_and_numbers_are_taken_back(self):
        floor = Floor(TWO_ALIKE, ("turns",))
        floor.go(come(0, 1))
        floor.go(come(0, 1))
        floor.back()
        self.assertEqual(floor.stand_now(), ((1, 0), 1))
        floor.go(come(1, 0))
        self.assertEqual(floor.askers(), ((0,), (1,)))
        self.assertEqual(floor.counts_now(), (2, 2, 0, 0))


class OwnTest(FloorCase):
    def test_two_floors_by_turns(self):
        one, other = Floor(TWO_MOVED, RANDOM), Floor(TWO_MOVED, RANDOM)
        third = Floor(THREE_UNLIKE, ("turns",))
        run = run_of(TWO_MOVED, 50, 8, 3)
        long = run_of(THREE_UNLIKE, 50, 8, 3)
        for at in range(50):
            one.go(run[at])
            third.go(long[at])
            self.assert_floor(other, TWO_MOVED, RANDOM, run[:at])
            other.go(run[at])
            self.assert_floor(one, TWO_MOVED, RANDOM, run[:at + 1])
            self.assert_floor(third, THREE_UNLIKE, ("turns",), long[:at + 1])
        for _ in range(50):
            one.back()
        self.assert_no_back(one)
        self.assert_floor(other, TWO_MOVED, RANDOM, run)
        self.assert_floor(third, THREE_UNLIKE, ("turns",), long)

    def test_what_was_told_stays_as_it_was(self):
        floor = Floor(TWO_ALIKE, RANDOM)
        floor.go(come(0, 1))
        told = all_told(floor)
        floor.go(come(0, 1))
        floor.back()
        floor.back()
        floor.go(come(1, 0))
        self.assertEqual(told, (((1, 0), 0), (1, 1, 0, 0), (come(0, 1),), ((0,), ())))


class LongTest(FloorCase):
    def test_more_than_two_hundred_moves_handed_in_again(self):
        for hall in (ONE_SERVER, TWO_MOVED, THREE_UNLIKE):
            for rule in rules_of(hall):
                run = run_of(hall, 450, 12, 3)
                floor = Floor(hall, rule)
                for move in run:
                    floor.go(move)
                told = floor.run_so_far()
                self.assertEqual(told, run)
                self.assertIs(is_run(hall, told), True)
                self.assert_floor(floor, hall, rule, told)
                self.assertEqual(len(walked(hall, rule, told)), 451)
                again = Floor(hall, rule)
                for move in told:
                    again.go(move)
                self.assertEqual(all_told(again), all_told(floor))
                for _ in range(450):
                    floor.back()
                self.assert_no_back(floor)


if __name__ == "__main__":
    unittest.main()
