"""Promises 3, 11 and 12: halls."""

import copy
import itertools
import unittest

from samples import (
    FOUR_ALIKE, FOUR_UNLIKE, HALLS, ODD_THINGS, ONE_MOVED, ONE_SERVER, THREE_ALIKE,
    THREE_UNLIKE, TWO_ALIKE, TWO_MOVED, TWO_UNLIKE,
)
from shorterline.errors import NoHall
from shorterline.halls import (
    all_lines, count_of_lines, hall_turned, is_alike, is_hall, place_of_lines, right_hall,
)

SLOW = (1, 10)
SERVER = (SLOW, 2)

NO_SHARES = (
    None, True, 1, "1/2", [1, 2], (0, 1), (-1, 2), (2, 4), (1, 0), (1, -2), (1, 10001), (2, 20001),
    (True, 2), (1, True), (1,), (1, 2, 3), ((1, 2),), {}, (), (10 ** 39, 10 ** 39 + 1),
)
NO_SERVERS = (
    None, True, 3, "server", [SLOW, 2], (SLOW,), (SLOW, 2, 2), (), SLOW,
    (SLOW, 0), (SLOW, 7), (SLOW, -1), (SLOW, True), (SLOW, None), (SLOW, "2"), (SLOW, [2]), (2, SLOW),
) + tuple((share, 2) for share in NO_SHARES)


class RightHallTest(unittest.TestCase):
    def assert_refused(self, thing, word, number=-1):
        kept = copy.deepcopy(thing)
        with self.assertRaises(NoHall) as caught:
            right_hall(thing)
        self.assertEqual((caught.exception.word, caught.exception.number), (word, number), thing)
        self.assertIs(is_hall(thing), False, thing)
        self.assertEqual(thing, kept)

    def assert_right(self, thing):
        self.assertIs(right_hall(thing), True, thing)
        self.assertIs(is_hall(thing), True, thing)

    def test_halls(self):
        for hall in HALLS:
            self.assert_right(hall)

    def test_hall(self):
        for thing in ODD_THINGS:
            self.assert_refused(thing, "hall")
        for thing in (
            list(TWO_ALIKE), TWO_ALIKE[:2], TWO_ALIKE + (True,), (TWO_ALIKE,), "abc", {0: 1, 1: 2, 2: 3},
        ):
            self.assert_refused(thing, "hall")

    def test_come(self):
        for come in NO_SHARES:
            self.assert_refused((come, (SERVER,), True), "come")

    def test_servers(self):
        for servers in (
            (), (SERVER,) * 5, (SERVER,) * 6, [SERVER], [], None, True, 4, "abc", {0: SERVER},
        ):
            self.assert_refused(((1, 2), servers, False), "servers")

    def test_server(self):
        for wrong in NO_SERVERS:
            for many in (1, 2, 3, 4):
                for number in range(many):
                    servers = [SERVER] * many
                    servers[number] = wrong
                    self.assert_refused(((1, 2), tuple(servers), False), "server", number)

    def test_first_wrong_server_goes(self):
        self.assert_refused(((1, 2), (SERVER, None, (SLOW, 7)), False), "server", 1)
        self.assert_refused(((1, 2), (None, None, None, None), False), "server", 0)

    def test_moved(self):
        for moved in (None, 0, 1, "True", "", (), [], [True], (True,), {}):
            self.assert_refused(((1, 2), (SERVER,), moved), "moved")

    def test_share(self):
        for thing in (
            ((2, 1), (SERVER,), True),
            ((1, 1), (((1, 10000), 1),), True),
            ((1, 2), (((5001, 10000), 1),), False),
            ((1, 2), (((1, 4), 1), ((1, 4), 1), ((1, 9999), 1)), False),
            ((1, 5), (((1, 5), 1), ((1, 5), 2), ((1, 5), 3), ((2001, 10000), 1)), False),
            ((1, 10000), (((10000, 9999), 1),), False),
        ):
            self.assert_refused(thing, "share")

    def test_shares_together_just_1(self):
        for thing in (
            ((1, 2), (((1, 2), 1),), False),
            ((1, 10000), (((9999, 10000), 6),), True),
            ((1, 5), (((1, 5), 1), ((1, 5), 2), ((1, 5), 3), ((1, 5), 6)), False),
            ((1, 2), (((1, 3), 1), ((1, 6), 1)), False),
        ):
            self.assert_right(thing)

    def test_bottoms(self):
        self.assert_right(((1, 10000), (((1, 10000), 1),), False))
        self.assert_refused(((1, 10001), (((1, 10000), 1),), False), "come")
        self.assert_refused(((1, 10000), (((1, 10001), 1),), False), "server", 0)

    def test_rooms(self):
        for room in range(-1, 9):
            thing = ((1, 2), (SERVER, (SLOW, room)), False)
            if 1 <= room <= 6:
                self.assert_right(thing)
            else:
                self.assert_refused(thing, "server", 1)

    def test_where_several_are_amiss_the_first_goes(self):
        self.assert_refused([None, None, None], "hall")
        self.assert_refused((None, None, None), "come")
        self.assert_refused(((0, 1), (), 1), "come")
        self.assert_refused(((3, 1), (), None), "servers")
        self.assert_refused(((3, 1), (SERVER, 1), None), "server", 1)
        self.assert_refused(((3, 1), (1,) * 5, None), "servers")
        self.assert_refused(((3, 1), (SERVER,), None), "moved")
        self.assert_refused(((3, 1), (SERVER,), 1), "moved")
        self.assert_refused(((3, 1), (SERVER,), True), "share")


class HallTest(unittest.TestCase):
    def test_alike(self):
        for hall in (ONE_SERVER, ONE_MOVED, TWO_ALIKE, TWO_MOVED, THREE_ALIKE, FOUR_ALIKE):
            self.assertIs(is_alike(hall), True, hall)

    def test_unlike(self):
        for hall in (TWO_UNLIKE, THREE_UNLIKE, FOUR_UNLIKE):
            self.assertIs(is_alike(hall), False, hall)
        for servers in (
            (((1, 5), 2), ((1, 5), 3)),
            (((1, 5), 2), ((1, 6), 2)),
            (((1, 5), 2), ((1, 5), 2), ((1, 5), 1)),
            (((1, 5), 2), ((1, 5), 2), ((1, 5), 2), ((1, 6), 2)),
        ):
            for moved in (True, False):
                self.assertIs(is_alike(((1, 10), servers, moved)), False, servers)

    def test_all_lines(self):
        for hall in HALLS:
            lines = all_lines(hall)
            rooms = [range(room + 1) for _, room in hall[1]]
            self.assertIs(type(lines), list)
            self.assertEqual(lines, sorted(itertools.product(*rooms)))
            self.assertTrue(all(type(one) is tuple for one in lines))

    def test_all_lines_by_hand(self):
        self.assertEqual(all_lines(ONE_SERVER), [(0,), (1,), (2,), (3,)])
        hall = ((1, 2), (((1, 4), 1), ((1, 4), 2)), False)
        self.assertEqual(all_lines(hall), [(0, 0), (0, 1), (0, 2), (1, 0), (1, 1), (1, 2)])

    def test_all_lines_of_the_largest_hall(self):
        self.assertEqual(len(all_lines(((1, 5), (((1, 5), 6),) * 4, False))), 7 ** 4)

    def test_count_and_places_of_lines(self):
        for hall in HALLS:
            lines = all_lines(hall)
            self.assertEqual(count_of_lines(hall), len(lines))
            self.assertEqual([place_of_lines(hall, one) for one in lines], list(range(len(lines))))

    def test_told_lists_are_the_askers_own(self):
        for hall in HALLS:
            lines = all_lines(hall)
            kept = list(lines)
            lines.reverse()
            lines.append("more")
            del lines[0]
            self.assertEqual(all_lines(hall), kept)

    def test_turned(self):
        for hall in HALLS:
            for order in itertools.permutations(range(len(hall[1]))):
                kept = copy.deepcopy(hall)
                come, servers, moved = hall_turned(hall, order)
                self.assertEqual((come, moved), (hall[0], hall[2]))
                self.assertIs(type(servers), tuple)
                self.assertEqual(servers, tuple(hall[1][number] for number in order))
                self.assertIs(is_hall((come, servers, moved)), True)
                self.assertEqual(hall, kept)

    def test_turned_by_hand(self):
        one, two, three = THREE_UNLIKE[1]
        self.assertEqual(
            hall_turned(THREE_UNLIKE, (1, 2, 0)), (THREE_UNLIKE[0], (two, three, one), True)
        )


if __name__ == "__main__":
    unittest.main()
