"""Promises 22 and 23, and the first row of 5: runs walked, counted, and who stayed how long."""

import itertools
import unittest

from samples import (
    FOUR_ALIKE, FOUR_UNLIKE, HALLS, ONE_MOVED, ONE_SERVER, STILL, THREE_ALIKE, THREE_UNLIKE, TWO_ALIKE, TWO_MOVED,
    TWO_UNLIKE, come, done, lines_turned, moves_of, places_of, rule_turned, rules_of, run_of, run_turned, with_moved,
)
from shorterline.halls import all_lines, hall_turned
from shorterline.moves import first_stand, is_run, is_stand, moved_on
from shorterline.rules import sent_to
from shorterline.runs import counted, stays, walked

RANDOM = ("random",)
LEAST = ("least",)
TURNS = ("turns",)


class Walker:
    """A run as promises 20 and 22 word it, with each asker walking about by its number."""

    def __init__(self, hall, rule, run):
        self.hall, self.rule = hall, rule
        self.lines = [[] for _ in hall[1]]
        self.turn = 0
        self.stands = [self.stand()]
        self.counts = {"came": 0, "taken": 0, "away": 0, "served": 0}
        self.turns = []
        self.gone = []
        for move in run:
            self.make(move)
            self.settle()
            self.stands.append(self.stand())
            for number in sum(self.lines, []):
                self.turns[number] += 1

    def stand(self):
        return (tuple(len(line) for line in self.lines), self.turn)

    def make(self, move):
        if move[0] == "come":
            self.come(sent_to(self.hall, self.rule, self.stand(), move[1]))
        elif move[0] == "done" and self.lines[move[1]]:
            self.gone[self.lines[move[1]].pop(0)] = True
            self.counts["served"] += 1

    def come(self, line):
        number = self.counts["came"]
        self.counts["came"] += 1
        taken = len(self.lines[line]) < self.hall[1][line][1]
        self.counts["taken" if taken else "away"] += 1
        self.turns.append(0 if taken else None)
        self.gone.append(False)
        if taken:
            self.lines[line].append(number)
        if self.rule == TURNS:
            self.turn = (self.turn + 1) % len(self.lines)

    def settle(self):
        while self.hall[2] and [] in self.lines and max(map(len, self.lines)) >= 2:
            longest = max(self.lines, key=len)
            self.lines[self.lines.index([])].append(longest.pop())

    def stays(self):
        return tuple(
            None if turns is None else (turns, gone) for turns, gone in zip(self.turns, self.gone)
        )


def runs_of(hall):
    """Runs of no move, of one, of some forty, and of two hundred, with few askers and with many."""
    yield ()
    for move in moves_of(hall):
        yield (move,)
    for comes in (1, 3, 9):
        for many in (39, 40, 41, 200):
            yield run_of(hall, many, 10 * many + comes, comes)


class AgainstWalkerTest(unittest.TestCase):
    def test_all_halls_and_rules(self):
        for hall in HALLS:
            for rule in rules_of(hall):
                for run in runs_of(hall):
                    walker = Walker(hall, rule, run)
                    self.assertEqual(walked(hall, rule, run), tuple(walker.stands), (hall, rule, run))
                    self.assertEqual(counted(hall, rule, run), tuple(walker.counts.values()), (hall, rule, run))
                    self.assertEqual(stays(hall, rule, run), walker.stays(), (hall, rule, run))

    def test_halls_that_move_and_that_do_not(self):
        for hall in HALLS:
            hall = with_moved(hall, not hall[2])
            for rule in rules_of(hall):
                run = run_of(hall, 120, 7, 3)
                walker = Walker(hall, rule, run)
                self.assertEqual(walked(hall, rule, run), tuple(walker.stands))
                self.assertEqual(counted(hall, rule, run), tuple(walker.counts.values()))
                self.assertEqual(stays(hall, rule, run), walker.stays())

    def test_the_runs_show_all_that_can_happen(self):
        seen = set()
        for hall in HALLS:
            for rule in rules_of(hall):
                for run in runs_of(hall):
                    for stay in stays(hall, rule, run):
                        seen.add("away" if stay is None else ("gone" if stay[1] else "there"))
                        seen.add("quick" if stay == (1, True) else "other")
        self.assertEqual(seen, {"away", "gone", "there", "quick", "other"})

    def test_more_than_two_hundred_moves(self):
        for hall in (TWO_ALIKE, THREE_UNLIKE, FOUR_ALIKE):
            for rule in rules_of(hall):
                run = run_of(hall, 1500, 3, 3)
                walker = Walker(hall, rule, run)
                self.assertEqual(walked(hall, rule, run), tuple(walker.stands))
                self.assertEqual(counted(hall, rule, run), tuple(walker.counts.values()))
                self.assertEqual(stays(hall, rule, run), walker.stays())


class KindsTest(unittest.TestCase):
    def test_kinds(self):
        for hall in HALLS:
            for rule in rules_of(hall):
                for run in ((), run_of(hall, 40, 1, 9)):
                    stands = walked(hall, rule, run)
                    self.assertIs(type(stands), tuple)
                    self.assertEqual(len(stands), len(run) + 1)
                    self.assertTrue(all(is_stand(hall, rule, stand) for stand in stands))
                    counts = counted(hall, rule, run)
                    self.assertIs(type(counts), tuple)
                    self.assertEqual([type(count) for count in counts], [int] * 4)
                    told = stays(hall, rule, run)
                    self.assertIs(type(told), tuple)
                    for stay in told:
                        if stay is not None:
                            self.assertEqual([type(part) for part in stay], [int, bool])
                            self.assertIs(type(stay), tuple)

    def test_no_move(self):
        for hall in HALLS:
            for rule in rules_of(hall):
                self.assertEqual(walked(hall, rule, ()), (first_stand(hall),))
                self.assertEqual(counted(hall, rule, ()), (0, 0, 0, 0))
                self.assertEqual(stays(hall, rule, ()), ())

    def test_walked_goes_as_moved_on(self):
        for hall in HALLS:
            for rule in rules_of(hall):
                run = run_of(hall, 60, 5, 3)
                self.assertIs(is_run(hall, run), True)
                stands = walked(hall, rule, run)
                for stand, move, behind in zip(stands, run, stands[1:]):
                    self.assertEqual(moved_on(hall, rule, stand, move)[0], behind)

    def test_asked_again(self):
        run = run_of(TWO_MOVED, 50, 2)
        for told in (walked, counted, stays):
            self.assertEqual(told(TWO_MOVED, LEAST, run), told(TWO_MOVED, LEAST, run))


class ByHandTest(unittest.TestCase):
    def assert_run(self, hall, rule, run, lines, counts, told):
        self.assertEqual(tuple(stand[0] for stand in walked(hall, rule, run)), lines)
        self.assertEqual(counted(hall, rule, run), counts)
        self.assertEqual(stays(hall, rule, run), told)

    def test_turned_away_served_and_still_there(self):
        self.assert_run(
            TWO_ALIKE, RANDOM, (come(0, 1), come(0, 1), come(0, 1), done(0), STILL, come(1, 0)),
            ((0, 0), (1, 0), (2, 0), (2, 0), (1, 0), (1, 0), (1, 1)),
            (4, 3, 1, 1),
            ((3, True), (5, False), None, (1, False)),
        )

    def test_served_in_the_move_behind_its_coming(self):
        self.assert_run(
            ONE_SERVER, LEAST, (come(0), done(0)), ((0,), (1,), (0,)), (1, 1, 0, 1), ((1, True),),
        )

    def test_one_that_only_came(self):
        self.assert_run(ONE_SERVER, LEAST, (come(0),), ((0,), (1,)), (1, 1, 0, 0), ((1, False),))

    def test_nobody_there(self):
        self.assert_run(ONE_SERVER, LEAST, (STILL, done(0)), ((0,), (0,), (0,)), (0, 0, 0, 0), ())

    def test_first_come_is_served_first(self):
        self.assert_run(
            ONE_SERVER, LEAST, (come(0), come(0), STILL, done(0), done(0)),
            ((0,), (1,), (2,), (2,), (1,), (0,)), (2, 2, 0, 2), ((3, True), (3, True)),
        )

    def test_moved_to_another_line_and_served_there(self):
        # The third asker is moved behind the second one's being served, and is served in that line.
        self.assert_run(
            TWO_MOVED, RANDOM, (come(0, 1), come(1, 0), come(0, 1), done(1), done(1), STILL),
            ((0, 0), (1, 0), (1, 1), (2, 1), (1, 1), (1, 0), (1, 0)),
            (3, 3, 0, 2),
            ((6, False), (2, True), (2, True)),
        )

    def test_moved_at_once(self):
        # The second asker is sent to the first line, goes to the void one at once, and is served there.
        self.assert_run(
            TWO_MOVED, RANDOM, (come(0, 1), come(0, 1), done(1), STILL),
            ((0, 0), (1, 0), (1, 1), (1, 0), (1, 0)), (2, 2, 0, 1), ((4, False), (1, True)),
        )

    def test_last_one_of_the_longest_line_is_moved(self):
        self.assert_run(
            TWO_MOVED, RANDOM,
            (come(0, 1), come(1, 0), come(0, 1), come(0, 1), done(1), done(1), done(1), done(0)),
            ((0, 0), (1, 0), (1, 1), (2, 1), (3, 1), (2, 1), (1, 1), (1, 0), (0, 0)),
            (4, 4, 0, 4),
            ((7, True), (3, True), (4, True), (2, True)),
        )

    def test_turns_go_on_behind_one_turned_away(self):
        hall = ((1, 2), (((1, 4), 1), ((1, 4), 2)), False)
        run = (come(0, 1),) * 4
        self.assertEqual(
            walked(hall, TURNS, run), (((0, 0), 0), ((1, 0), 1), ((1, 1), 0), ((1, 1), 1), ((1, 2), 0))
        )
        self.assertEqual(counted(hall, TURNS, run), (4, 3, 1, 0))
        self.assertEqual(stays(hall, TURNS, run), ((4, False), (3, False), None, (1, False)))

    def test_two_hundred_moves(self):
        run = (come(0), done(0)) * 100
        self.assertEqual(counted(ONE_SERVER, RANDOM, run), (100, 100, 0, 100))
        self.assertEqual(stays(ONE_SERVER, RANDOM, run), ((1, True),) * 100)
        run = (come(0),) * 200
        self.assertEqual(counted(ONE_SERVER, RANDOM, run), (200, 3, 197, 0))
        self.assertEqual(stays(ONE_SERVER, RANDOM, run), ((200, False), (199, False), (198, False)) + (None,) * 197)


class SumsTest(unittest.TestCase):
    def test_both_sums(self):
        for hall in HALLS:
            for rule in rules_of(hall):
                for run in runs_of(hall):
                    stands = walked(hall, rule, run)
                    came, taken, away, served = counted(hall, rule, run)
                    told = stays(hall, rule, run)
                    there = [stay for stay in told if stay is not None]
                    self.assertEqual(came, taken + away)
                    self.assertEqual(came, away + served + sum(stands[-1][0]))
                    self.assertEqual((came, away), (len(told), told.count(None)))
                    self.assertEqual(served, sum(gone for _, gone in there))
                    self.assertEqual(sum(sum(lines) for lines, _ in stands[1:]), sum(turns for turns, _ in there))
                    self.assertEqual(came, sum(move[0] == "come" for move in run))


class TurnedTest(unittest.TestCase):
    def test_turned_hall_goes_along_the_turned_run(self):
        for hall in HALLS:
            hall = with_moved(hall, False)
            rules = [("random",), ("two",), ("least",), ("quick",), ("told", places_of(hall))]
            for order in itertools.permutations(range(len(hall[1]))):
                turned = hall_turned(hall, order)
                for rule in rules:
                    run = run_of(hall, 60, 11, 3)
                    other = (turned, rule_turned(hall, rule, order), run_turned(run, order))
                    self.assertIs(is_run(turned, other[2]), True)
                    self.assertEqual(
                        walked(*other), tuple((lines_turned(lines, order), 0) for lines, _ in walked(hall, rule, run))
                    )
                    self.assertEqual(counted(*other), counted(hall, rule, run))
                    self.assertEqual(stays(*other), stays(hall, rule, run))


class SameRulesTest(unittest.TestCase):
    def assert_same(self, hall, one, other):
        for comes in (1, 3, 9):
            run = run_of(hall, 80, comes, comes)
            self.assertEqual(
                [stand[0] for stand in walked(hall, one, run)], [stand[0] for stand in walked(hall, other, run)]
            )
            self.assertEqual(counted(hall, one, run), counted(hall, other, run))
            self.assertEqual(stays(hall, one, run), stays(hall, other, run))

    def test_of_one_line_all(self):
        for hall in (ONE_SERVER, ONE_MOVED):
            rules = rules_of(hall) + [("told", (0,) * len(all_lines(hall)))]
            for one, other in itertools.combinations(rules, 2):
                self.assert_same(hall, one, other)
                self.assertEqual(walked(hall, one, (come(0),) * 9), walked(hall, other, (come(0),) * 9))

    def test_of_two_lines_two_and_least(self):
        for hall in (TWO_ALIKE, TWO_MOVED, TWO_UNLIKE):
            self.assert_same(hall, ("two",), ("least",))

    def test_of_alike_speeds_least_and_quick(self):
        unlike_rooms = ((1, 5), (((1, 5), 1), ((1, 5), 4), ((1, 5), 2)), True)
        for hall in (TWO_ALIKE, TWO_MOVED, THREE_ALIKE, FOUR_ALIKE, unlike_rooms, with_moved(unlike_rooms, False)):
            self.assert_same(hall, ("least",), ("quick",))

    def test_rules_that_do_not_do_the_same(self):
        run = run_of(FOUR_UNLIKE, 80, 9, 9)
        told = {rule: walked(FOUR_UNLIKE, rule, run) for rule in rules_of(FOUR_UNLIKE)}
        self.assertEqual(len(set(told.values())), 6)


if __name__ == "__main__":
    unittest.main()
