"""Promise 13: halls as lines."""

import unittest

from samples import FOUR_ALIKE, HALLS, ONE_MOVED, THREE_UNLIKE, TWO_UNLIKE
from shorterline.errors import NoText
from shorterline.halllines import fraction_text, hall_lines, read_fraction, read_hall
from shorterline.halls import is_hall

HEAD = "hall 1/5 stay"
SERVER = "server 1/5 3"

FORTY_ONES = "1" * 40
WRONG_WORDS = (
    "", "1", "1/", "/2", "/", "1/2/3", "1//2", "2/4", "10/20", "0/1", "0/2", "-1/5", "-0/1", "--1/5", "+1/5",
    "1/-5", "-1/-5", "1/+5", "01/5", "1/05", "001/5", "1/0", "1/00", "a/5", "1/b", "1.5/5", "1/5.", "0.2",
    "1/10001", "3/20000", "1_0/11", "1/1_0", " 1/5", "1/5\n", "\n1/5", "1\n/5", "\t", "2/1", "3/2",
    FORTY_ONES + "/1", "1/" + FORTY_ONES, "1" + FORTY_ONES + "/1", "1/1" + FORTY_ONES, "0" * 40 + "1/5",
    "1" * 5000 + "/1", "1/" + "1" * 5000, "9" * 5000 + "/" + "9" * 5000, "-" + "9" * 5000 + "/7", "0" * 5000,
)


class FractionTextTest(unittest.TestCase):
    def test_written_and_read_again(self):
        for fraction, text in (
            ((0, 1), "0/1"), ((1, 2), "1/2"), ((-1, 2), "-1/2"), ((-10, 1), "-10/1"), ((100, 7), "100/7"),
            ((10 ** 40 - 1, 10 ** 39), "9" * 40 + "/1" + "0" * 39), ((1 - 10 ** 40, 10), "-" + "9" * 40 + "/10"),
        ):
            self.assertEqual(fraction_text(fraction), text)
            self.assertEqual(read_fraction(text), fraction)

    def test_words_that_write_none(self):
        for word in (
            "", "-", "/", "-/1", "1/", "/1", "-0/1", "--1/2", "- 1/2", "-01/2", "00/1", "0/2", "0/0", "1/-2", "2/4",
            "-2/4", "+1/2", "1/2/3", "1" * 41 + "/1", "1/" + "1" * 41, "-" + "1" * 41 + "/1", "-" + "1" * 5000 + "/1",
        ):
            self.assertIsNone(read_fraction(word), word)


class HallLinesTest(unittest.TestCase):
    def test_by_hand(self):
        self.assertEqual(hall_lines(ONE_MOVED), ["hall 1/3 move", "server 1/2 6"])
        self.assertEqual(hall_lines(TWO_UNLIKE), ["hall 1/5 stay", "server 1/2 1", "server 3/10 6"])

    def test_written_and_read_again(self):
        for hall in HALLS + (
            ((1, 10000), (((9999, 10000), 6),), True),
            ((1, 10000), (((1, 10000), 1),) * 4, False),
        ):
            lines = hall_lines(hall)
            self.assertIs(type(lines), list)
            self.assertEqual(len(lines), 1 + len(hall[1]))
            self.assertEqual(read_hall(lines), hall)

    def test_told_lists_are_the_askers_own(self):
        lines = hall_lines(THREE_UNLIKE)
        kept = list(lines)
        lines.reverse()
        lines.pop()
        self.assertEqual(hall_lines(THREE_UNLIKE), kept)


class ReadHallTest(unittest.TestCase):
    def assert_refused(self, lines, row):
        kept = list(lines)
        with self.assertRaises(NoText) as caught:
            read_hall(lines)
        self.assertEqual(caught.exception.place, row, lines)
        self.assertIs(type(caught.exception.place), int)
        self.assertEqual(lines, kept)

    def assert_read(self, lines, hall):
        kept = list(lines)
        self.assertEqual(read_hall(lines), hall)
        self.assertIs(is_hall(read_hall(lines)), True)
        self.assertIs(type(read_hall(lines)[2]), bool)
        self.assertEqual(lines, kept)

    def test_by_hand(self):
        self.assert_read(["hall 1/2 stay", "server 1/2 6"], ((1, 2), (((1, 2), 6),), False))
        self.assert_read(
            ["hall 1/10000 move", "server 1/4 1", "server 7/10000 2"],
            ((1, 10000), (((1, 4), 1), ((7, 10000), 2)), True),
        )

    def test_no_lines(self):
        self.assert_refused([], 0)

    def test_no_server(self):
        self.assert_refused(["hall 1/2 stay"], 1)
        self.assert_refused(["hall 1/1 move"], 1)

    def test_lines_out_twice_exchanged_put_in(self):
        lines = hall_lines(FOUR_ALIKE)
        self.assert_refused(lines[1:], 0)
        self.assert_refused(lines[:1] + lines, 1)
        self.assert_refused([lines[1], lines[0]] + lines[2:], 0)
        self.assert_refused([lines[1], lines[2], lines[0]], 0)
        self.assert_refused(lines[:3] + [""] + lines[3:], 3)
        self.assert_refused(lines[:2] + [lines[0]] + lines[2:], 2)
        self.assert_refused(lines + [""], 5)
        self.assert_refused([""] + lines, 0)
        self.assert_refused([""], 0)
        self.assert_refused(lines[:1] + [lines[1] + "\n" + lines[2]] + lines[3:], 1)
        for out in (1, 2, 3, 4):
            fewer = lines[:out] + lines[out + 1:]
            self.assert_read(fewer, (FOUR_ALIKE[0], FOUR_ALIKE[1][1:], True))

    def test_words_of_the_head(self):
        for head in (
            "hall", "hall 1/5", "hall stay", "1/5 stay", "hall 1/5 stay move", "hall 1/5 stay 3", "hall 1/5 Stay",
            "hall 1/5 moved", "hall 1/5 True", "Hall 1/5 stay", "hal 1/5 stay", "server 1/5 stay", "hall stay 1/5",
            "hall  1/5 stay", "hall 1/5  stay", " hall 1/5 stay", "hall 1/5 stay ", "hall 1/5 stay\n",
            "hall\n1/5 stay", "hall 1/5\tstay", "hall 1/5 ", "hall 1/5 3", "hall 1 / 5 stay", " ", "\n",
        ):
            self.assert_refused([head, SERVER], 0)

    def test_words_of_a_server(self):
        for server in (
            "", "server", "server 1/5", "server 3", "1/5 3", "server 1/5 3 3", "Server 1/5 3", "servers 1/5 3",
            "hall 1/5 3", "server 3 1/5", "server  1/5 3", "server 1/5  3", " server 1/5 3", "server 1/5 3 ",
            "server 1/5 3\n", "server 1/5 stay", "server 1/5 ", "server 1/5 -1", "server 1/5 +1", "server 1/5 03",
            "server 1/5 33", "server 1/5 0", "server 1/5 7", "server 1/5 9", "server 1/5 3/1", "server 1/5 a",
            "server 1/5 " + "3" * 5000, HEAD, " ", "\n",
        ):
            self.assert_refused([HEAD, server], 1)
            self.assert_refused([HEAD, SERVER, server], 2)
            self.assert_refused([HEAD, SERVER, SERVER, server, SERVER], 3)

    def test_rooms(self):
        for room in range(1, 7):
            self.assert_read([HEAD, f"server 1/5 {room}"], ((1, 5), (((1, 5), room),), False))

    def test_fractions(self):
        for word in WRONG_WORDS:
            self.assert_refused([f"hall {word} stay", SERVER], 0)
            self.assert_refused([HEAD, f"server {word} 2"], 1)
            self.assert_refused([HEAD, SERVER, f"server {word} 2", SERVER], 2)

    def test_share_beyond_1(self):
        self.assert_refused(["hall 1/1 stay", "server 1/10000 1"], 1)
        self.assert_refused(["hall 1/1 stay", "server 1/1 1"], 1)
        self.assert_refused(["hall 3/2 stay", "server 1/10 1"], 0)
        self.assert_refused(["hall 10000/9999 stay", "server 1/10 1"], 0)
        self.assert_refused(["hall 1/2 stay", "server 5001/10000 1"], 1)
        self.assert_refused(["hall 1/2 stay", "server 1/2 1", "server 1/10000 1"], 2)
        self.assert_refused(["hall 1/4 stay"] + ["server 1/4 1"] * 4, 4)
        self.assert_refused(["hall 1/2 stay", "server 3/4 1", ""], 1)

    def test_share_just_1(self):
        self.assert_read(["hall 1/2 stay", "server 1/2 1"], ((1, 2), (((1, 2), 1),), False))
        self.assert_read(["hall 1/4 stay"] + ["server 1/4 1"] * 3, ((1, 4), (((1, 4), 1),) * 3, False))
        self.assert_read(["hall 1/5 move"] + ["server 1/5 6"] * 4, ((1, 5), (((1, 5), 6),) * 4, True))

    def test_fifth_server(self):
        server = "server 1/10 1"
        self.assert_read([HEAD] + [server] * 4, ((1, 5), (((1, 10), 1),) * 4, False))
        self.assert_refused([HEAD] + [server] * 5, 5)
        self.assert_refused([HEAD] + [server] * 7, 5)
        self.assert_refused([HEAD] + [server] * 4 + ["x"], 5)

    def test_the_first_wrong_line_goes(self):
        self.assert_refused(["hall", "server"], 0)
        self.assert_refused([HEAD, SERVER, "x", "y"], 2)
        self.assert_refused([HEAD, "server 1/5 7"] + [SERVER] * 6, 1)
        self.assert_refused(["hall 2/1 stay"], 0)

    def test_what_is_read_hangs_on_nothing(self):
        lines = [HEAD, SERVER]
        hall = read_hall(lines)
        lines[1] = "server 1/2 1"
        lines.append(SERVER)
        self.assertEqual(hall, ((1, 5), (((1, 5), 3),), False))


if __name__ == "__main__":
    unittest.main()
