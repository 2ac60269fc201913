"""Promises 20 and 21: stands, moves and runs."""

import copy
import itertools
import unittest

from samples import (
    FOUR_ALIKE, FOUR_UNLIKE, HALLS, ODD_THINGS, ONE_SERVER, THREE_ALIKE, THREE_UNLIKE,
    TWO_ALIKE, TWO_MOVED, TWO_UNLIKE, moves_of, rules_of, turns_of,
)
from shorterline.halls import all_lines
from shorterline.moves import all_orders, first_stand, is_move, is_run, is_stand, moved_on
from shorterline.rules import sent_to


class FirstStandTest(unittest.TestCase):
    def test_void_lines(self):
        self.assertEqual(first_stand(ONE_SERVER), ((0,), 0))
        self.assertEqual(first_stand(FOUR_ALIKE), ((0, 0, 0, 0), 0))
        for hall in HALLS:
            for rule in rules_of(hall):
                self.assertIs(is_stand(hall, rule, first_stand(hall)), True)


class IsStandTest(unittest.TestCase):
    def assert_none(self, hall, rule, thing):
        kept = copy.deepcopy(thing)
        self.assertIs(is_stand(hall, rule, thing), False, (hall, rule, thing))
        self.assertEqual(thing, kept)

    def test_stands(self):
        for hall in HALLS:
            for rule in rules_of(hall):
                for lines in all_lines(hall):
                    for turn in turns_of(hall, rule):
                        self.assertIs(is_stand(hall, rule, (lines, turn)), True)

    def test_other_kinds(self):
        for hall in HALLS:
            for rule in rules_of(hall):
                for thing in ODD_THINGS:
                    self.assert_none(hall, rule, thing)
                    if thing not in all_lines(hall):
                        self.assert_none(hall, rule, (thing, 0))

    def test_pairs(self):
        for hall in HALLS:
            for rule in rules_of(hall):
                lines, turn = first_stand(hall)
                for thing in ([lines, turn], (lines,), (lines, turn, turn), (turn, lines), lines, (list(lines), turn)):
                    self.assert_none(hall, rule, thing)

    def test_lines(self):
        for hall in HALLS:
            for rule in rules_of(hall):
                lines = (0,) * len(hall[1])
                self.assert_none(hall, rule, (lines + (0,), 0))
                self.assert_none(hall, rule, (lines[1:], 0))
                for at, (_, room) in enumerate(hall[1]):
                    for wrong in (room + 1, -1, 10 ** 39, True, False, None, "0", (0,), [0]):
                        self.assert_none(hall, rule, (lines[:at] + (wrong,) + lines[at + 1:], 0))

    def test_turns(self):
        for hall in HALLS:
            lines = (0,) * len(hall[1])
            for turn in (-1, len(hall[1]), 10 ** 39, True, False, None, "0", (0,), [0]):
                for rule in rules_of(hall):
                    self.assert_none(hall, rule, (lines, turn))

    def test_turn_is_0_by_rules_other_than_turns(self):
        for hall in HALLS:
            lines = (0,) * len(hall[1])
            for turn in range(1, len(hall[1])):
                for rule in rules_of(hall):
                    self.assertIs(is_stand(hall, rule, (lines, turn)), rule == ("turns",))


class IsMoveTest(unittest.TestCase):
    def assert_none(self, hall, thing):
        kept = copy.deepcopy(thing)
        self.assertIs(is_move(hall, thing), False, (hall, thing))
        self.assertIs(is_run(hall, (thing,)), False, (hall, thing))
        self.assertIs(is_run(hall, (("still",), thing, ("still",))), False, (hall, thing))
        self.assertEqual(thing, kept)

    def test_moves(self):
        for hall in HALLS:
            for move in moves_of(hall):
                self.assertIs(is_move(hall, move), True, move)

    def test_other_kinds(self):
        for hall in HALLS:
            for thing in ODD_THINGS:
                if thing != ("still",):
                    self.assert_none(hall, thing)

    def test_words(self):
        for thing in (
            ("stay",), ("Still",), ("still ",), ("come",), ("done",), (None,), (0,), ("still", 0), ("still", None),
            ("still", ()), ["still"], "still", ("go", 0), ("", 0), (None, 0), (0, "done"), ((0, 1), "come"), {"still": 0},
        ):
            self.assert_none(TWO_ALIKE, thing)

    def test_done(self):
        for hall in HALLS:
            many = len(hall[1])
            for wrong in (many, -1, 9, 10 ** 39, True, False, None, "0", (0,), [0], ()):
                self.assert_none(hall, ("done", wrong))
            for thing in (["done", 0], ("done", 0, 0), ("done",), ("Done", 0)):
                self.assert_none(hall, thing)

    def test_come(self):
        for hall in HALLS:
            order = tuple(range(len(hall[1])))
            for wrong in (
                order + (0,), order[1:], order + (len(order),), list(order), (), None, True, 0, "01", {},
                order[:-1] + (len(order),), (-1,) + order[1:], order[:-1] + (None,), order[:-1] + ("0",),
                order[:-1] + ([0],), (False,) + order[1:],
            ):
                self.assert_none(hall, ("come", wrong))
            for thing in (["come", order], ("come", order, order), ("come",) + order + (0,), ("Come", order)):
                self.assert_none(hall, thing)

    def test_a_number_twice_in_an_order(self):
        for wrong in ((0, 0), (1, 1), (0, True), (True, 0), (1, True), (False, 1)):
            self.assert_none(TWO_ALIKE, ("come", wrong))
        for wrong in ((0, 1, 1), (0, 0, 2), (2, 1, 2), (1, 2, 1), (0, True, 2)):
            self.assert_none(THREE_ALIKE, ("come", wrong))


class IsRunTest(unittest.TestCase):
    def test_runs(self):
        for hall in HALLS:
            moves = tuple(moves_of(hall))
            self.assertIs(is_run(hall, ()), True)
            self.assertIs(is_run(hall, moves), True)
            self.assertIs(is_run(hall, moves * 40), True)

    def test_two_hundred_moves_and_more(self):
        for many in (199, 200, 201, 250):
            self.assertIs(is_run(TWO_ALIKE, (("still",),) * many), True)

    def test_other_kinds(self):
        for hall in HALLS:
            for thing in ODD_THINGS:
                self.assertIs(is_run(hall, thing), thing == (), thing)
            self.assertIs(is_run(hall, []), False)
            self.assertIs(is_run(hall, [("still",)]), False)
            self.assertIs(is_run(hall, ("still",)), False)
            self.assertIs(is_run(hall, ("done", 0)), False)
            self.assertIs(is_run(hall, ((("still",),),)), False)

    def test_last_move_is_looked_at(self):
        self.assertIs(is_run(TWO_ALIKE, (("still",),) * 150 + (("done", 2),)), False)
        self.assertIs(is_run(TWO_ALIKE, (("still",),) * 150 + (("done", 1),)), True)


class AllOrdersTest(unittest.TestCase):
    def test_rising(self):
        for hall in HALLS:
            orders = all_orders(hall)
            self.assertIs(type(orders), list)
            self.assertEqual(orders, list(itertools.permutations(range(len(hall[1])))))
            self.assertEqual(orders, sorted(orders))

    def test_told_lists_are_the_askers_own(self):
        orders = all_orders(THREE_ALIKE)
        kept = list(orders)
        orders.reverse()
        orders.pop()
        self.assertEqual(all_orders(THREE_ALIKE), kept)


def expected(hall, rule, stand, move):
    """The pair as promise 20 words it, with askers walking about in lists."""
    lines = [["asker"] * many for many in stand[0]]
    turn, word = stand[1], "none"
    if move[0] == "come":
        line = sent_to(hall, rule, stand, move[1])
        if len(lines[line]) < hall[1][line][1]:
            lines[line].append("new")
            word = "taken"
        else:
            word = "away"
        if rule == ("turns",):
            turn = 0 if turn + 1 == len(lines) else turn + 1
    if move[0] == "done" and lines[move[1]]:
        lines[move[1]].pop(0)
        word = "served"
    while hall[2] and [] in lines and any(len(line) >= 2 for line in lines):
        longest = sorted(lines, key=len, reverse=True)[0]
        asker = longest.pop()
        lines[lines.index([])].append(asker)
    return ((tuple(len(line) for line in lines), turn), word)


class MovedOnTest(unittest.TestCase):
    def test_all_stands_and_moves(self):
        for hall in HALLS:
            for rule in rules_of(hall):
                for lines in all_lines(hall):
                    for turn in turns_of(hall, rule):
                        for move in moves_of(hall):
                            stand = (lines, turn)
                            told = moved_on(hall, rule, stand, move)
                            self.assertEqual(told, expected(hall, rule, stand, move), (hall, rule, stand, move))
                            self.assertIs(is_stand(hall, rule, told[0]), True)
                            self.assertIs(type(told), tuple)

    def test_come(self):
        least = ("least",)
        self.assertEqual(moved_on(TWO_ALIKE, least, ((0, 0), 0), ("come", (1, 0))), (((0, 1), 0), "taken"))
        self.assertEqual(moved_on(TWO_ALIKE, least, ((2, 1), 0), ("come", (0, 1))), (((2, 2), 0), "taken"))
        self.assertEqual(moved_on(TWO_ALIKE, least, ((2, 2), 0), ("come", (0, 1))), (((2, 2), 0), "away"))
        self.assertEqual(moved_on(TWO_UNLIKE, least, ((1, 4), 0), ("come", (1, 0))), (((1, 4), 0), "away"))

    def test_done(self):
        two = ("two",)
        self.assertEqual(moved_on(TWO_ALIKE, two, ((2, 1), 0), ("done", 0)), (((1, 1), 0), "served"))
        self.assertEqual(moved_on(TWO_ALIKE, two, ((2, 1), 0), ("done", 1)), (((2, 0), 0), "served"))
        self.assertEqual(moved_on(TWO_ALIKE, two, ((2, 0), 0), ("done", 1)), (((2, 0), 0), "none"))

    def test_still(self):
        self.assertEqual(moved_on(TWO_ALIKE, ("two",), ((2, 0), 0), ("still",)), (((2, 0), 0), "none"))

    def test_turns(self):
        turns = ("turns",)
        self.assertEqual(moved_on(THREE_ALIKE, turns, ((0, 0, 0), 0), ("come", (2, 1, 0))), (((1, 0, 0), 1), "taken"))
        self.assertEqual(moved_on(THREE_ALIKE, turns, ((1, 0, 0), 1), ("come", (2, 1, 0))), (((1, 1, 0), 2), "taken"))
        self.assertEqual(moved_on(THREE_ALIKE, turns, ((1, 1, 0), 2), ("come", (2, 1, 0))), (((1, 1, 1), 0), "taken"))
        self.assertEqual(moved_on(THREE_ALIKE, turns, ((0, 2, 0), 1), ("come", (0, 1, 2))), (((0, 2, 0), 2), "away"))
        self.assertEqual(moved_on(THREE_ALIKE, turns, ((0, 0, 2), 2), ("come", (0, 1, 2))), (((0, 0, 2), 0), "away"))
        self.assertEqual(moved_on(THREE_ALIKE, turns, ((0, 2, 0), 1), ("done", 1)), (((0, 1, 0), 1), "served"))
        self.assertEqual(moved_on(THREE_ALIKE, turns, ((0, 2, 0), 1), ("done", 0)), (((0, 2, 0), 1), "none"))
        self.assertEqual(moved_on(THREE_ALIKE, turns, ((0, 2, 0), 1), ("still",)), (((0, 2, 0), 1), "none"))
        self.assertEqual(moved_on(ONE_SERVER, turns, ((0,), 0), ("come", (0,))), (((1,), 0), "taken"))

    def test_askers_are_moved(self):
        random = ("random",)
        self.assertEqual(moved_on(TWO_MOVED, random, ((1, 0), 0), ("come", (0, 1))), (((1, 1), 0), "taken"))
        self.assertEqual(moved_on(TWO_MOVED, random, ((3, 1), 0), ("done", 1)), (((2, 1), 0), "served"))
        self.assertEqual(moved_on(TWO_MOVED, random, ((1, 1), 0), ("done", 1)), (((1, 0), 0), "served"))

    def test_askers_are_moved_at_lines_that_no_move_left(self):
        random = ("random",)
        self.assertEqual(moved_on(TWO_MOVED, random, ((0, 3), 0), ("still",)), (((1, 2), 0), "none"))
        self.assertEqual(moved_on(TWO_MOVED, random, ((0, 3), 0), ("done", 0)), (((1, 2), 0), "none"))
        self.assertEqual(moved_on(TWO_MOVED, random, ((0, 3), 0), ("come", (1, 0))), (((1, 2), 0), "away"))
        self.assertEqual(moved_on(TWO_MOVED, random, ((0, 3), 0), ("done", 1)), (((1, 1), 0), "served"))
        self.assertEqual(moved_on(TWO_MOVED, ("turns",), ((0, 3), 1), ("come", (0, 1))), (((1, 2), 0), "away"))

    def test_longest_of_the_least_number_to_void_of_the_least_number(self):
        hall = ((1, 5), (((1, 5), 4), ((1, 5), 4), ((1, 5), 4), ((1, 5), 4)), True)
        for lines, left in (
            ((3, 3, 0, 1), (2, 3, 1, 1)),
            ((0, 3, 3, 0), (1, 2, 2, 1)),
            ((4, 0, 0, 0), (1, 1, 1, 1)),
            ((0, 0, 2, 0), (1, 0, 1, 0)),
            ((0, 2, 0, 3), (1, 1, 1, 2)),
            ((1, 1, 0, 1), (1, 1, 0, 1)),
            ((1, 2, 3, 4), (1, 2, 3, 4)),
            ((0, 0, 0, 1), (0, 0, 0, 1)),
        ):
            self.assertEqual(moved_on(hall, ("two",), (lines, 0), ("still",)), ((left, 0), "none"))
            stays = (hall[0], hall[1], False)
            self.assertEqual(moved_on(stays, ("two",), (lines, 0), ("still",)), ((lines, 0), "none"))

    def test_unlike_rooms(self):
        self.assertEqual(
            moved_on(THREE_UNLIKE, ("random",), ((0, 0, 3), 0), ("come", (2, 1, 0))), (((1, 1, 1), 0), "away")
        )
        self.assertEqual(
            moved_on(FOUR_UNLIKE, ("random",), ((1, 0, 0, 0), 0), ("come", (0, 1, 2, 3))), (((1, 0, 0, 0), 0), "away")
        )


if __name__ == "__main__":
    unittest.main()
