"""Promise 66: runs as texts and never papers as lines, written and read."""

import copy
import unittest

from samples import (
    FOUR_UNLIKE, HALLS, LARGEST, ONE_SERVER, STILL, THREE_ALIKE, TWO_ALIKE, TWO_MOVED, TWO_UNLIKE, come, done, moves_of,
    rules_of, run_of,
)
from shorterline.errors import LineError, NoText
from shorterline.halls import all_lines
from shorterline.neverchecker import lets_never
from shorterline.nevers import never_worse
from shorterline.paperlines import paper_lines, read_paper, read_run, run_text
from shorterline.runs import counted

LEAST = ("least",)


class TextCase(unittest.TestCase):
    def assert_no_text(self, place, read, *handed):
        before = copy.deepcopy(handed)
        with self.assertRaises(NoText) as caught:
            read(*handed)
        self.assertIs(type(caught.exception), NoText)
        self.assertIsInstance(caught.exception, LineError)
        self.assertEqual(caught.exception.place, place, handed[-1])
        self.assertIs(type(caught.exception.place), int)
        self.assertEqual(handed, before)


class RunTextTest(TextCase):
    def test_by_hand(self):
        self.assertEqual(run_text((come(1, 0), done(0), STILL)), "c10 d0 s")
        self.assertEqual(run_text(()), "-")
        self.assertEqual(run_text((STILL,)), "s")
        self.assertEqual(run_text((come(0),)), "c0")
        self.assertEqual(run_text((come(3, 0, 2, 1), done(3))), "c3021 d3")

    def test_read_by_hand(self):
        self.assertEqual(read_run(TWO_ALIKE, "c10 d0 s"), (come(1, 0), done(0), STILL))
        self.assertEqual(read_run(TWO_ALIKE, "-"), ())
        self.assertEqual(read_run(ONE_SERVER, "c0 c0 d0 s s"), (come(0), come(0), done(0), STILL, STILL))
        self.assertEqual(read_run(FOUR_UNLIKE, "c3021 d3"), (come(3, 0, 2, 1), done(3)))

    def test_all_moves_written_and_read_again(self):
        for hall in HALLS:
            moves = tuple(moves_of(hall))
            self.assertEqual(read_run(hall, run_text(moves)), moves)
            for move in moves:
                text = run_text((move,))
                self.assertIs(type(text), str)
                self.assertNotIn(" ", text)
                self.assertEqual(read_run(hall, text), (move,))

    def test_long_runs(self):
        for hall in HALLS:
            for many in (0, 1, 2, 199, 200, 201, 1000):
                run = run_of(hall, many, many)
                found = read_run(hall, run_text(run))
                self.assertEqual(found, run)
                self.assertIs(type(found), tuple)
                self.assertTrue(all(type(move) is tuple for move in found))
                self.assertEqual(counted(hall, LEAST, found), counted(hall, LEAST, run))

    def test_told_runs(self):
        for hall in (TWO_ALIKE, TWO_UNLIKE):
            run = never_worse(hall, ("random",), LEAST)[1]
            self.assertEqual(read_run(hall, run_text(run)), run)


class NoRunTest(TextCase):
    WRONG = (
        "", "x", "c", "c0", "c1", "c00", "c11", "c010", "c02", "c20", "c012", "c0 1", "c-1", "c1,0", "c(1, 0)", "C10", "c10s",
        "c10d0", "d", "d2", "d9", "d00", "d01", "d-1", "D0", "d0s", "dd", "d 0", "s0", "ss", "S", "s1", "0", "10", "still", "come",
        "done", "--", "-s", "s-", "-c10", "c10\n", "\nc10", "s\n", "d0\n", "\n", "c10\nd0", "None", "()", "c1a", "dx", "c+10", "c10.",
    )

    def test_each_word_alone_and_among_others(self):
        for word in self.WRONG:
            self.assert_no_text(0, read_run, TWO_ALIKE, word)
            self.assert_no_text(0, read_run, TWO_ALIKE, word + " s")
            self.assert_no_text(1, read_run, TWO_ALIKE, "s " + word)
            self.assert_no_text(3, read_run, TWO_ALIKE, "c10 d0 s " + word)
            self.assert_no_text(3, read_run, TWO_ALIKE, "c10 d0 s " + word + " c01")

    def test_the_first_one_is_told(self):
        self.assert_no_text(1, read_run, TWO_ALIKE, "s x s y")
        self.assert_no_text(0, read_run, TWO_ALIKE, "x y z")
        self.assert_no_text(250, read_run, TWO_ALIKE, "s " * 250 + "x")

    def test_void_run_among_others(self):
        self.assert_no_text(0, read_run, TWO_ALIKE, "- s")
        self.assert_no_text(1, read_run, TWO_ALIKE, "s -")
        self.assert_no_text(0, read_run, TWO_ALIKE, "- -")
        self.assert_no_text(1, read_run, TWO_ALIKE, "s - s")
        self.assert_no_text(0, read_run, TWO_ALIKE, "- ")
        self.assert_no_text(0, read_run, TWO_ALIKE, " -")
        self.assert_no_text(0, read_run, TWO_ALIKE, "- x")
        self.assert_no_text(0, read_run, TWO_ALIKE, "-\n")

    def test_blanks(self):
        self.assert_no_text(0, read_run, TWO_ALIKE, " ")
        self.assert_no_text(0, read_run, TWO_ALIKE, " s")
        self.assert_no_text(1, read_run, TWO_ALIKE, "s ")
        self.assert_no_text(1, read_run, TWO_ALIKE, "s  s")
        self.assert_no_text(2, read_run, TWO_ALIKE, "s d0  s")
        self.assert_no_text(0, read_run, TWO_ALIKE, "s\ts")

    def test_words_of_another_hall(self):
        self.assert_no_text(0, read_run, ONE_SERVER, "c10")
        self.assert_no_text(1, read_run, ONE_SERVER, "c0 d1")
        self.assert_no_text(0, read_run, THREE_ALIKE, "c10 d0 s")
        self.assert_no_text(1, read_run, THREE_ALIKE, "d2 d3")
        for one in HALLS:
            for other in HALLS:
                text = run_text((STILL, moves_of(one)[0]))
                if len(one[1]) != len(other[1]):
                    self.assert_no_text(1, read_run, other, text)


class PaperLinesTest(TextCase):
    def test_by_hand(self):
        self.assertEqual(paper_lines((((2, 1), (1, 1), 0),)), ["2 1 | 1 1 | 0"])
        self.assertEqual(paper_lines(()), [])
        self.assertEqual(
            paper_lines((((0,), (3,), 12), ((3,), (0,), 10 ** 39))), ["0 | 3 | 12", "3 | 0 | 1" + "0" * 39]
        )
        self.assertEqual(read_paper(TWO_ALIKE, ["2 1 | 1 1 | 0"]), (((2, 1), (1, 1), 0),))
        self.assertEqual(read_paper(TWO_ALIKE, []), ())

    def test_told_papers_written_and_read_again(self):
        for hall in HALLS:
            for rule in rules_of(hall):
                if rule == ("turns",):
                    continue
                word, paper = never_worse(hall, LEAST, rule)
                if word == "never":
                    lines = paper_lines(paper)
                    self.assertIs(type(lines), list)
                    self.assertTrue(all(type(line) is str for line in lines))
                    found = read_paper(hall, lines)
                    self.assertEqual(found, paper)
                    self.assertIs(type(found), tuple)
                    self.assertIs(lets_never(hall, LEAST, rule, found), True)

    def test_lines_that_are_not_kept(self):
        self.assertEqual(read_paper(TWO_ALIKE, ["0 2 | 1 2 | 7"]), (((0, 2), (1, 2), 7),))
        for hall in HALLS:
            paper = tuple((lines, lines[::-1], 3) for lines in all_lines(hall) if lines[::-1] in all_lines(hall))
            self.assertEqual(read_paper(hall, paper_lines(paper)), paper)
            # Nor need anything be shown: triples that no checker lets by are read.
            full = tuple(room for _, room in hall[1])
            paper = ((full, (0,) * len(full), 0),) * 3
            self.assertEqual(read_paper(hall, paper_lines(paper)), paper)

    def test_largest_hall(self):
        paper = (((6, 0, 3, 5), (0, 6, 6, 6), 10),)
        self.assertEqual(paper_lines(paper), ["6 0 3 5 | 0 6 6 6 | 10"])
        self.assertEqual(read_paper(LARGEST, paper_lines(paper)), paper)

    def test_leads(self):
        for lead in (0, 1, 9, 10, 123, 10 ** 12, 10 ** 39, 10 ** 40 - 1):
            paper = (((1, 0), (1, 0), lead),)
            self.assertEqual(paper_lines(paper), [f"1 0 | 1 0 | {lead}"])
            self.assertEqual(read_paper(TWO_ALIKE, paper_lines(paper)), paper)
            self.assertIs(type(read_paper(TWO_ALIKE, paper_lines(paper))[0][2]), int)

    def test_the_paper_is_ones_own(self):
        paper = (((1, 0), (1, 0), 1),)
        lines = paper_lines(paper)
        lines.append("x")
        self.assertEqual(paper_lines(paper), ["1 0 | 1 0 | 1"])
        lines = ["1 0 | 1 0 | 1"]
        found = read_paper(TWO_ALIKE, lines)
        self.assertEqual(lines, ["1 0 | 1 0 | 1"])
        lines[0] = "x"
        self.assertEqual(found, paper)


class NoPaperTest(TextCase):
    WRONG = (
        "", " ", "x", "1 0", "1 0 | 1 0", "1 0 | 1 0 |", "1 0 | 1 0 | ", "1 0 | 1 0 | 0 ", " 1 0 | 1 0 | 0", "1  0 | 1 0 | 0",
        "1 0 |  1 0 | 0", "1 0 | 1 0 | 00", "1 0 | 1 0 | 01", "1 0 | 1 0 | -1", "1 0 | 1 0 | +1", "1 0 | 1 0 | x", "1 0 | 1 0 | 1 1",
        "1 0 | 1 0 | 1 |", "| 1 0 | 1 0 | 0", "1 0 1 0 0", "1 0 1 0 | 0", "1 0 | 1 0 0", "1 0|1 0|0", "10 | 10 | 0", "1 0 | 10 | 0",
        "1 0 0 | 1 0 | 0", "1 | 1 0 | 0", "1 0 | 1 | 0", "1 0 | 1 0 0 | 0", "3 0 | 1 0 | 0", "1 0 | 0 3 | 0", "-1 0 | 1 0 | 0",
        "1 -0 | 1 0 | 0", "1 00 | 1 0 | 0", "1 01 | 1 0 | 0", "1 a | 1 0 | 0", "1 0 ; 1 0 ; 0", "1 0 : 1 0 : 0", "1 | 0 1 | 0 0",
        "1 0 | 1 0 | 0\n", "\n1 0 | 1 0 | 0", "1 0\n| 1 0 | 0", "1\t0 | 1 0 | 0", "1 0 | 1 0 | 1.0", "1 0 | 1 0 | 1/1", "-",
        "1 0 | 1 0 | " + "1" * 41, "1 0 | 1 0 | 1" + "0" * 5000, "1 0 | 1 0 | 0" + "1" * 39, "((1, 0), (1, 0), 0)", "1 0 || 1 0 | 0",
        "1 0 | 1 0 0 0", "1 0 | 1 0 x 0", "1 0 x 1 0 | 0", "1 0 | 1 0 || 0",
    )

    def test_each_row_alone_and_among_others(self):
        right = "1 0 | 1 0 | 0"
        for wrong in self.WRONG:
            self.assert_no_text(0, read_paper, TWO_ALIKE, [wrong])
            self.assert_no_text(0, read_paper, TWO_ALIKE, [wrong, right])
            self.assert_no_text(2, read_paper, TWO_ALIKE, [right, right, wrong])
            self.assert_no_text(1, read_paper, TWO_ALIKE, [right, wrong, right, wrong])

    def test_rows_of_another_hall(self):
        self.assert_no_text(0, read_paper, ONE_SERVER, ["1 0 | 1 0 | 0"])
        self.assert_no_text(0, read_paper, THREE_ALIKE, ["1 0 | 1 0 | 0"])
        self.assert_no_text(0, read_paper, TWO_ALIKE, ["1 | 1 | 0"])
        # The rooms of each line count by themselves.
        self.assertEqual(read_paper(TWO_UNLIKE, ["1 6 | 0 2 | 0"]), (((1, 6), (0, 2), 0),))
        self.assert_no_text(0, read_paper, TWO_UNLIKE, ["6 1 | 0 2 | 0"])
        self.assert_no_text(0, read_paper, TWO_UNLIKE, ["1 6 | 2 0 | 0"])
        self.assert_no_text(1, read_paper, TWO_MOVED, ["3 3 | 3 3 | 0", "3 4 | 3 3 | 0"])

    def test_nothing_is_changed(self):
        lines = ["1 0 | 1 0 | 0", "x"]
        self.assert_no_text(1, read_paper, TWO_ALIKE, lines)
        self.assertEqual(lines, ["1 0 | 1 0 | 0", "x"])


if __name__ == "__main__":
    unittest.main()
