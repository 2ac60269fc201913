"""Promise 70 and the row "desk" of the interface."""

import copy
import itertools
import unittest

from samples import (
    FOUR_ALIKE, FOUR_UNLIKE, HALLS, LARGE, LARGEST, ONE_SERVER, SIXTY, SIXTY_ONE, THREE_SMALL, TWO_ALIKE, TWO_MOVED,
    TWO_UNLIKE, places_of, rules_of, run_of, with_moved,
)
from shorterline.bestchecker import lets_best
from shorterline.bests import best_paper
from shorterline.desk import Desk
from shorterline.errors import LineError, NoRow, NoText, TooMany
from shorterline.halllines import hall_lines
from shorterline.halls import all_lines
from shorterline.measures import how_many, means_of, served_each, share_away, stay_of
from shorterline.nevers import never_worse
from shorterline.paperlines import read_run, run_text
from shorterline.ruletexts import rule_text
from shorterline.runs import counted, walked
from shorterline.sharing import shares_of

WORDS = ("random", "two", "least", "quick")
NAMES = ("a", "b", "c", "d", "e", "f", "g", "h", "i", "j")


def hall_row(name, hall):
    return "\n".join([f"hall {name}"] + hall_lines(hall))


def written(fraction):
    return f"{fraction[0]}/{fraction[1]}"


def desk_with(**halls):
    desk = Desk()
    for name, hall in halls.items():
        assert desk.say(hall_row(name, hall)) == "ok"
    return desk


class DeskCase(unittest.TestCase):
    def assert_refused(self, desk, row, error, **fields):
        """The row is refused, and all halls are as they were."""
        before = self.halls_of(desk)
        with self.assertRaises(LineError) as caught:
            desk.say(row)
        self.assertIs(type(caught.exception), error, row)
        for name, value in fields.items():
            self.assertEqual(getattr(caught.exception, name), value, row)
        self.assertEqual(self.halls_of(desk), before)

    def assert_no_row(self, desk, *rows):
        for row in rows:
            self.assert_refused(desk, row, NoRow)

    def halls_of(self, desk):
        """What each name answers."""
        found = {}
        for name in NAMES + ("hall", "walk", "abcdefgh", "abcdefghi"):
            try:
                found[name] = desk.say(f"lines {name}")
            except NoRow:
                found[name] = None
        return found


class HallRowTest(DeskCase):
    def test_kept_and_told_again(self):
        desk = Desk()
        for name, hall in zip(NAMES, HALLS):
            answer = desk.say(hall_row(name, hall))
            self.assertEqual(answer, "ok")
            self.assertIs(type(answer), str)
        for name, hall in zip(NAMES, HALLS):
            self.assertEqual(desk.say(f"lines {name}"), "\n".join(hall_lines(hall)))

    def test_by_hand(self):
        desk = Desk()
        self.assertEqual(desk.say("hall a\nhall 1/2 stay\nserver 1/4 2\nserver 1/8 1"), "ok")
        self.assertEqual(desk.say("lines a"), "hall 1/2 stay\nserver 1/4 2\nserver 1/8 1")
        self.assertEqual(desk.say("hall a\nhall 1/3 move\nserver 1/2 6"), "ok")
        self.assertEqual(desk.say("lines a"), "hall 1/3 move\nserver 1/2 6")

    def test_told_anew(self):
        desk = desk_with(a=TWO_ALIKE, b=ONE_SERVER)
        self.assertEqual(desk.say(hall_row("a", TWO_UNLIKE)), "ok")
        self.assertEqual(desk.say("lines a"), "\n".join(hall_lines(TWO_UNLIKE)))
        self.assertEqual(desk.say("lines b"), "\n".join(hall_lines(ONE_SERVER)))
        self.assertEqual(desk.say("measures a least").split(" ")[0], written(how_many(TWO_UNLIKE, ("least",))))

    def test_names(self):
        for name in ("a", "z", "ab", "abcdefgh", "zzzzzzzz", "hall", "walk", "shares", "measures", "means", "against",
                     "best", "lines", "least", "told", "stay", "move", "server", "ok"):
            desk = Desk()
            self.assertEqual(desk.say(hall_row(name, TWO_ALIKE)), "ok")
            self.assertEqual(desk.say(f"lines {name}"), "\n".join(hall_lines(TWO_ALIKE)))
            self.assertEqual(desk.say(f"walk {name} least\n-"), "0 0\n0 0 0 0")
            self.assertEqual(desk.say(f"against {name} least random"), "never")
        for name in ("abcdefghi", "A", "aB", "Hall", "a1", "1", "a_b", "a-b", "-", "a.", "", "a\t"):
            desk = desk_with(a=ONE_SERVER)
            self.assert_no_row(desk, hall_row(name, TWO_ALIKE), f"hall {name}", f"lines {name}", f"walk {name} least\n-")

    def test_lines_that_write_no_hall(self):
        right = hall_lines(TWO_ALIKE)
        for lines, place in (
            ([], 0), ([""], 0), (["x"], 0), (["hall 1/2 stay"], 1), (["hall 1/2 stay", ""], 1), (right + [""], 3),
            (right + ["server 1/4 2"], 3), ([""] + right, 0), (right[:1] + [""] + right[1:], 1), (right[1:], 0),
            (["hall 2/4 stay"] + right[1:], 0), (["hall 1/2 walk"] + right[1:], 0), (["hall 1/2"] + right[1:], 0),
            (["hall 1/2 stay", "server 1/4 7"], 1), (["hall 1/2 stay", "server 1/4 2", "server 2/8 2"], 2),
            (["hall 1/1 stay", "server 1/4 2"], 1), (["hall 1/2 stay"] + ["server 1/9 1"] * 5, 5),
            (["hall 1/2  stay"] + right[1:], 0), (["hall a"] + right, 0),
        ):
            desk = desk_with(a=ONE_SERVER, b=TWO_MOVED)
            for name in ("a", "c"):
                self.assert_refused(desk, "\n".join([f"hall {name}"] + lines), NoText, place=place)

    def test_no_lines_at_all(self):
        desk = desk_with(a=ONE_SERVER)
        self.assert_refused(desk, "hall a", NoText, place=0)
        self.assert_refused(desk, "hall b", NoText, place=0)
        self.assert_refused(desk, "hall a\n", NoText, place=0)
        self.assert_refused(desk, "hall a\n\n\n\n\n\n", NoText, place=0)

    def test_no_row_ahead_of_no_text(self):
        desk = desk_with(a=ONE_SERVER)
        self.assert_no_row(
            desk, "hall", "hall ", "hall  a", "hall a ", "hall a b", " hall a", "hall\na", "hall \n" + "x", "hall A\nx",
            "hall a b\nx", "hall abcdefghi\nx", "hall  a\nx", "Hall a\nx", "halls a\nx", "\nhall a", "hall a \n" + "x",
            "hall a hall 1/2 stay\nserver 1/4 2",
        )


class WalkTest(DeskCase):
    def test_against_the_functions(self):
        for hall in HALLS:
            desk = desk_with(a=hall)
            for rule in rules_of(hall):
                for many in (0, 1, 7, 60, 200, 260):
                    run = run_of(hall, many, many, comes=3)
                    lines = walked(hall, rule, run)[-1][0]
                    self.assertEqual(
                        desk.say(f"walk a {rule_text(rule)}\n{run_text(run)}"),
                        " ".join(map(str, lines)) + "\n" + " ".join(map(str, counted(hall, rule, run))),
                    )

    def test_by_hand(self):
        desk = desk_with(a=TWO_ALIKE)
        self.assertEqual(desk.say("walk a least\nc10 c10 d1 s c01"), "1 1\n3 3 0 1")
        self.assertEqual(desk.say("walk a random\nc01 c01 c01"), "2 0\n3 2 1 0")
        self.assertEqual(desk.say("walk a told 1 1 1 1 1 1 1 1 1\nc01 c01 c01 d0"), "0 2\n3 2 1 0")
        self.assertEqual(desk.say("walk a turns\nc01 c01 c01"), "2 1\n3 3 0 0")
        self.assertEqual(desk.say("walk a two\n-"), "0 0\n0 0 0 0")

    def test_runs_that_are_none(self):
        desk = desk_with(a=TWO_ALIKE)
        for text, place in (
            ("", 0), (" ", 0), ("x", 0), ("s x", 1), ("s ", 1), ("- s", 0), ("s -", 1), ("c0", 0), ("d2", 0), ("s  s", 1),
            ("c10 c10 c11", 2), ("--", 0),
        ):
            self.assert_refused(desk, f"walk a least\n{text}", NoText, place=place)

    def test_no_rows(self):
        desk = desk_with(a=TWO_ALIKE)
        self.assert_no_row(
            desk, "walk", "walk a", "walk a least", "walk a least -", "walk a\n-", "walk\n-", "walk \n-", "walk a \n-", "walk b least\n-",
            "walk a least\n-\n", "walk a least\ns\ns", "walk a least\n\n", "walk a least \n-", "walk  a least\n-", "walk a  least\n-",
            " walk a least\n-", "walk a least two\n-", "walk a longest\n-", "walk a Least\n-", "Walk a least\n-", "walk A least\n-",
            "walk a told\n-", "walk a told 0 0 0 0 0 0 0 0\n-", "walk a told 0 0 0 0 0 0 0 0 0 0\n-", "walk a told 0 0 0 0 0 0 0 0 2\n-",
            "walk a told 0 0 0 0 0 0 0 0 00\n-", "walk a told 000000000\n-", "walk least a\n-", "walk a least\ts\n-",
        )

    def test_no_row_ahead_of_no_text(self):
        desk = desk_with(a=TWO_ALIKE)
        self.assert_no_row(
            desk, "walk b least\nx", "walk a longest\nx", "walk a least\nx\n", "walk a least\nx\ny", "walk a told 0\nx", "walk a\nx",
        )


class SharesTest(DeskCase):
    def test_against_the_function(self):
        for hall in HALLS + (THREE_SMALL, SIXTY):
            desk = desk_with(a=hall)
            for rule in rules_of(hall):
                row = f"shares a {rule_text(rule)}"
                try:
                    paper = shares_of(hall, rule)
                except TooMany:
                    self.assert_refused(desk, row, TooMany, word="stands")
                    continue
                rows = [
                    " ".join(map(str, lines)) + f" : {turn} : " + written(share) for (lines, turn), share in paper
                ]
                self.assertEqual(desk.say(row), "\n".join(rows))

    def test_by_hand(self):
        desk = desk_with(a=((1, 2), (((1, 4), 1), ((1, 4), 1)), False), b=ONE_SERVER)
        self.assertEqual(desk.say("shares a least"), "0 0 : 0 : 1/5\n0 1 : 0 : 1/5\n1 0 : 0 : 1/5\n1 1 : 0 : 2/5")
        self.assertEqual(desk.say("shares b turns"), "0 : 0 : 27/65\n1 : 0 : 18/65\n2 : 0 : 12/65\n3 : 0 : 8/65")
        self.assertEqual(desk.say("shares a told 0 0 0 0"), "0 0 : 0 : 1/3\n1 0 : 0 : 2/3")
        self.assertIn("0 0 : 1 : ", desk.say("shares a turns"))


class MeasuresTest(DeskCase):
    def test_against_the_functions(self):
        for hall in HALLS[:7] + (THREE_SMALL,):
            desk = desk_with(a=hall)
            for rule in rules_of(hall):
                row = f"measures a {rule_text(rule)}"
                try:
                    told = [measure(hall, rule) for measure in (how_many, share_away, served_each, stay_of)]
                except TooMany:
                    self.assert_refused(desk, row, TooMany, word="stands")
                    continue
                self.assertEqual(desk.say(row), " ".join(map(written, told)))

    def test_by_hand(self):
        desk = desk_with(a=ONE_SERVER, b=((1, 2), (((1, 4), 1), ((1, 4), 1)), False))
        self.assertEqual(desk.say("measures a quick"), "66/65 8/65 19/65 66/19")
        self.assertEqual(desk.say("measures b least"), "6/5 2/5 3/10 4/1")

    def test_many_figures(self):
        # Told numbers have as many figures as they need.
        hall = ((1, 9973), (((997, 9967), 1), ((1999, 9949), 2), ((1777, 9941), 2), ((1873, 9931), 2)), False)
        desk = desk_with(a=hall)
        answer = desk.say("measures a least")
        self.assertGreater(len(answer), 5000)
        self.assertEqual(
            answer, " ".join(written(measure(hall, ("least",))) for measure in (how_many, share_away, served_each, stay_of))
        )


class MeansTest(DeskCase):
    def test_against_the_function(self):
        for hall in HALLS[:6] + (LARGE,):
            desk = desk_with(a=hall)
            for rule in rules_of(hall):
                for turns in (0, 1, 2, 9, 10, 12) if hall != LARGE else (0, 3):
                    self.assertEqual(
                        desk.say(f"means {turns} a {rule_text(rule)}"), " ".join(map(written, means_of(hall, rule, turns)))
                    )

    def test_by_hand(self):
        desk = desk_with(a=ONE_SERVER)
        self.assertEqual(desk.say("means 0 a least"), "0/1 0/1 0/1")
        self.assertEqual(desk.say("means 2 a least"), "1/2 1/6 0/1")

    def test_turns(self):
        desk = desk_with(a=ONE_SERVER)
        for turns in range(13):
            self.assertEqual(desk.say(f"means {turns} a two"), " ".join(map(written, means_of(ONE_SERVER, ("two",), turns))))
        for turns in ("13", "14", "100", "00", "01", "012", "-1", "-0", "+1", "1.0", "x", "", "a", "1/1", "1" * 5000):
            self.assert_no_row(desk, f"means {turns} a two")

    def test_no_rows(self):
        desk = desk_with(a=ONE_SERVER)
        self.assert_no_row(
            desk, "means", "means ", "means 1", "means 1 a", "means a least", "means a 1 least", "means 1 a least two", "means 1 b least",
            "means 1 a longest", "means 1 a least\n", "means 1 a\nleast", "means  1 a least", "means 1 a ", "means 1  least",
            "means 1 a told 0 0 0", "means 1 1 a least",
        )


class AgainstTest(DeskCase):
    def test_against_the_function(self):
        for sample in HALLS[:7]:
            for hall in (sample, with_moved(sample, not sample[2])):
                desk = desk_with(a=hall)
                for one, other in itertools.product(WORDS, repeat=2):
                    answer = desk.say(f"against a {one} {other}")
                    word, shown = never_worse(hall, (one,), (other,))
                    if word == "never":
                        self.assertEqual(answer, "never")
                    else:
                        self.assertEqual(answer[:6], "worse ")
                        # Any shortest run may be told.
                        self.assertEqual(len(read_run(hall, answer[6:])), len(shown))

    def test_by_hand(self):
        desk = desk_with(a=((1, 2), (((1, 4), 1), ((1, 4), 1)), False))
        self.assertEqual(desk.say("against a least random"), "never")
        self.assertEqual(desk.say("against a random random"), "never")
        self.assertIn(desk.say("against a random least"), ("worse c01 c01", "worse c10 c01"))

    def test_no_rows(self):
        desk = desk_with(a=TWO_ALIKE)
        self.assert_no_row(
            desk, "against", "against a", "against a least", "against a least two quick", "against a turns least", "against a least turns",
            "against a least told 0 0 0 0 0 0 0 0 0", "against a told least", "against b least two", "against least two a",
            "against a least  two", "against a least two ", "against a least two\n", "against a least\ntwo", "against  a least two",
            "against a Least two", "against a least ", "against a  two", "Against a least two",
        )


class BestTest(DeskCase):
    def test_against_the_function(self):
        for hall in HALLS[:8]:
            desk = desk_with(a=hall)
            for fee, less in (((0, 1), (0, 1)), ((3, 2), (2, 3)), ((10000, 1), (9999, 10000))):
                answer = desk.say(f"best a {written(fee)} {written(less)}")
                places = tuple(int(figure) for figure in answer.split(" "))
                self.assertEqual(len(places), len(all_lines(hall)))
                # Any places may be told that go with the one table.
                self.assertIs(lets_best(hall, fee, less, (places, best_paper(hall, fee, less)[1])), True)

    def test_by_hand(self):
        desk = desk_with(a=ONE_SERVER)
        self.assertEqual(desk.say("best a 3/2 1/2"), "0 0 0 0")

    def test_fees_and_lesses_within_and_beyond_the_bounds(self):
        desk = desk_with(a=ONE_SERVER)
        for fee in ("0/1", "1/10000", "9999/10000", "10000/1", "9999/1", "99999999/10000", "1/1"):
            self.assertEqual(desk.say(f"best a {fee} 1/2"), "0 0 0 0")
        for fee in ("10001/1", "100000001/10000", "20001/2", "1/10001", "-1/1", "-1/10000", "2/2", "0/2", "1", "0", "1/0", "x", "", "01/1",
                    "1/01", "1/1/1", "1 /2", "+1/1", "-0/1", "1.5", "1/-1", "1" * 41 + "/1"):
            self.assert_no_row(desk, f"best a {fee} 1/2")
        for less in ("0/1", "1/10000", "9999/10000", "1/2"):
            self.assertEqual(desk.say(f"best a 1/1 {less}"), "0 0 0 0")
        for less in ("1/1", "2/1", "3/2", "10000/9999", "1/10001", "10000/10001", "-1/2", "-1/1", "2/4", "0", "1", "x", "", "0/0", "00/1"):
            self.assert_no_row(desk, f"best a 1/1 {less}")

    def test_too_many(self):
        desk = desk_with(a=LARGE, b=SIXTY, c=LARGEST)
        self.assert_refused(desk, "best a 1/1 1/2", TooMany, word="stands")
        self.assert_refused(desk, "best c 1/1 0/1", TooMany, word="stands")
        self.assertEqual(len(desk.say("best b 1/1 1/2").split(" ")), 60)

    def test_no_rows(self):
        desk = desk_with(a=ONE_SERVER)
        self.assert_no_row(
            desk, "best", "best a", "best a 1/1", "best a 1/1 1/2 1/2", "best b 1/1 1/2", "best 1/1 1/2 a", "best a 1/1 1/2\n",
            "best a 1/1\n1/2", "best a  1/1 1/2", "best  a 1/1 1/2", "best a 1/1 1/2 ", "best A 1/1 1/2", "Best a 1/1 1/2",
        )


class NoRowTest(DeskCase):
    def test_rows_of_no_kind(self):
        desk = desk_with(a=TWO_ALIKE)
        self.assert_no_row(
            desk, "", " ", "\n", "a", "x a", "line a", "share a least", "measure a least", "mean 1 a least", "worths a least", "standings a",
            "between a", "never a least two", "LINES a", "ok", "halls", "-", "told", "least a", "stays a least\n-", "lines\na",
        )

    def test_lines_rows(self):
        desk = desk_with(a=TWO_ALIKE)
        self.assert_no_row(
            desk, "lines", "lines ", "lines  a", "lines a ", " lines a", "lines a a", "lines b", "lines a\n", "\nlines a", "lines A",
            "lines a\nb", "lines abcdefghi",
        )

    def test_shares_and_measures_rows(self):
        desk = desk_with(a=TWO_ALIKE)
        for word in ("shares", "measures"):
            self.assert_no_row(
                desk, word, f"{word} ", f"{word} a", f"{word} a ", f"{word} least", f"{word} least a", f"{word} b least",
                f"{word} a longest", f"{word} a least two", f"{word} a least ", f"{word} a  least", f"{word}  a least",
                f"{word} a least\n", f"{word} a\nleast", f"\n{word} a least", f"{word} a told", f"{word} a told 0 0 0 0 0 0 0 0",
                f"{word} a told 0 0 0 0 0 0 0 0 0 0", f"{word} a told 0 0 0 0 0 0 0 0 2", f"{word} a told 0 0 0 0 0 0 0 0 -1",
                f"{word} a told 0  0 0 0 0 0 0 0 0", f"{word} a least\n-", f" {word} a least", f"{word} 1 a least",
            )

    def test_no_row_ahead_of_too_many(self):
        desk = desk_with(a=LARGE, b=SIXTY_ONE)
        for word in ("shares", "measures"):
            self.assert_refused(desk, f"{word} a random", TooMany, word="stands")
            self.assert_refused(desk, f"{word} b random", TooMany, word="stands")
            self.assert_no_row(desk, f"{word} a random\n", f"{word} a randomly", f"{word} a random two", f"{word} c random")
        self.assert_refused(desk, "best a 1/1 1/2", TooMany, word="stands")
        self.assert_no_row(desk, "best a 1/1 1/1", "best a -1/1 1/2", "best a 1/1 1/2\n", "best a 1/1 1/2 1", "best c 1/1 1/2")

    def test_a_void_desk_has_no_halls(self):
        self.assert_no_row(
            Desk(), "lines a", "walk a least\n-", "shares a least", "measures a least", "means 1 a least", "against a least two",
            "best a 1/1 1/2",
        )

    def test_rules_of_the_named_hall(self):
        # Places are those of the named hall, not of another one.
        desk = desk_with(a=ONE_SERVER, b=FOUR_UNLIKE)
        text = rule_text(("told", places_of(FOUR_UNLIKE)))
        self.assertEqual(desk.say(f"walk b {text}\n-"), "0 0 0 0\n0 0 0 0")
        self.assert_no_row(desk, f"walk a {text}\n-", f"shares a {text}")
        self.assertEqual(desk.say("walk a told 0 0 0 0\n-"), "0\n0 0 0 0")
        self.assert_no_row(desk, "walk b told 0 0 0 0\n-")


class WholeTest(DeskCase):
    def test_two_desks(self):
        one, other = Desk(), Desk()
        self.assertEqual(one.say(hall_row("a", TWO_ALIKE)), "ok")
        self.assert_no_row(other, "lines a")
        self.assertEqual(other.say(hall_row("a", ONE_SERVER)), "ok")
        self.assertEqual(other.say(hall_row("b", FOUR_ALIKE)), "ok")
        self.assertEqual(one.say("lines a"), "\n".join(hall_lines(TWO_ALIKE)))
        self.assertEqual(other.say("lines a"), "\n".join(hall_lines(ONE_SERVER)))
        self.assert_no_row(one, "lines b")

    def test_what_is_asked_changes_nothing(self):
        desk = desk_with(a=TWO_ALIKE, b=TWO_UNLIKE)
        rows = ("lines a", "walk a least\nc10 c01", "shares b quick", "measures a two", "means 3 b random", "best a 1/1 1/2",
                "against b least quick")
        before = self.halls_of(desk)
        answers = [desk.say(row) for row in rows]
        for row in ("x", "hall c", "hall a\nx", "walk a least\nx", "lines z"):
            with self.assertRaises(LineError):
                desk.say(row)
        self.assertEqual([type(answer) for answer in answers], [str] * len(rows))
        self.assertEqual(self.halls_of(desk), before)
        again = [desk.say(row) for row in rows]
        self.assertEqual(again[:5], answers[:5])

    def test_a_hall_kept_is_not_changed_by_a_refused_one(self):
        desk = desk_with(a=TWO_ALIKE)
        self.assert_refused(desk, "hall a\nhall 1/2 stay\nserver 1/4 2\nserver 1/4 x", NoText, place=2)
        self.assertEqual(desk.say("lines a"), "\n".join(hall_lines(TWO_ALIKE)))

    def test_rows_are_not_changed(self):
        row = hall_row("a", TWO_ALIKE)
        kept = copy.deepcopy(row)
        Desk().say(row)
        self.assertEqual(row, kept)


if __name__ == "__main__":
    unittest.main()
