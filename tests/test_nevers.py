"""Promises 61 to 63, 5 and 6: rules held against one another along every run."""

import copy
import itertools
import random
import unittest

from samples import (
    FOUR_ALIKE, FOUR_UNLIKE, HALLS, LARGEST, ONE_MOVED, ONE_SERVER, SIXTY, THREE_ALIKE, THREE_SMALL, THREE_UNLIKE,
    TWO_ALIKE, TWO_MOVED, TWO_UNLIKE, all_behind, begin_of, kept, kept_behind, moves_of, places_of, rules_of, run_of,
    with_moved,
)
from shorterline.errors import LineError, NoAlike, NoNever
from shorterline.halls import all_lines, is_alike
from shorterline.moves import is_run
from shorterline.neverchecker import lets_never
from shorterline.nevers import between, never_worse, standings

RANDOM = ("random",)
TURNS = ("turns",)
TWO = ("two",)
LEAST = ("least",)
QUICK = ("quick",)
WORDS = ("random", "two", "least", "quick")

SMALL = ((1, 2), (((1, 4), 1), ((1, 4), 1)), False)
PAIRED = (ONE_SERVER, ONE_MOVED, SMALL, TWO_ALIKE, TWO_MOVED, TWO_UNLIKE, THREE_SMALL, THREE_ALIKE)


def alike_hall(many, room, moved=False):
    return ((1, 9), (((2, 9), room),) * many, moved)


def some_rules(hall, seed=1):
    dice = random.Random(seed)
    count = len(all_lines(hall))
    told = [("told", tuple(dice.randrange(len(hall[1])) for _ in range(count))) for _ in range(2)]
    return [rule for rule in rules_of(hall) if rule != TURNS] + [("told", (0,) * count)] + told


def walked_by(hall, rule, run):
    """Behind each move, lines kept, how many were served and turned away so far."""
    lines = begin_of(hall)[0]
    served = away = 0
    for move in run:
        lines, word = kept_behind(hall, rule, lines, move)
        served += word == "served"
        away += word == "away"
        yield served, away


def is_worse_behind(hall, one, other, run):
    """For each move whether behind it the one rule served fewer or turned away more."""
    both = zip(walked_by(hall, one, run), walked_by(hall, other, run))
    return [one_served < other_served or one_away > other_away for (one_served, one_away), (other_served, other_away) in both]


def any_worse_within(hall, one, other, moves):
    """Whether some run of at most so many moves shows the one rule worse: a walk through all pairs with all leads."""
    stage = seen = {begin_of(hall)}
    for _ in range(moves):
        behind = {triple for ahead in stage for _, triple in all_behind(hall, one, other, ahead)}
        if any(lead < 0 or sum(x) > sum(y) + lead for x, y, lead in behind):
            return True
        stage = behind - seen
        seen = seen | behind
    return False


class NeverCase(unittest.TestCase):
    def assert_told(self, hall, one, other):
        """What is told is shown: a paper that is let by, or a shortest run."""
        before = copy.deepcopy((hall, one, other))
        told = never_worse(hall, one, other)
        self.assertEqual((hall, one, other), before)
        self.assertIs(type(told), tuple)
        self.assertEqual(len(told), 2)
        word, shown = told
        if word == "never":
            self.assertIs(lets_never(hall, one, other, shown), True)
            self.assertLess(max(lead for _, _, lead in shown), 10 ** 40)
            for seed in range(3):
                run = run_of(hall, 120, seed, comes=1 + seed)
                self.assertNotIn(True, is_worse_behind(hall, one, other, run))
        else:
            self.assertEqual(word, "worse")
            self.assertIs(is_run(hall, shown), True)
            self.assertEqual(is_worse_behind(hall, one, other, shown), [False] * (len(shown) - 1) + [True])
            self.assertFalse(any_worse_within(hall, one, other, len(shown) - 1))
        return word

    def assert_by_turns_refused(self, hall, one, other):
        with self.assertRaises(NoNever) as caught:
            never_worse(hall, one, other)
        self.assertIs(type(caught.exception), NoNever)
        self.assertIsInstance(caught.exception, LineError)
        self.assertEqual((caught.exception.word, caught.exception.number), ("rule", -1))


class NeverWorseTest(NeverCase):
    def test_all_pairs_of_rules(self):
        words = set()
        for sample in PAIRED:
            for hall in (sample, with_moved(sample, not sample[2])):
                for one, other in itertools.product(some_rules(hall), repeat=2):
                    word = self.assert_told(hall, one, other)
                    words.add((is_alike(hall), hall[2], word))
        self.assertEqual(len(words), 8)

    def test_larger_halls(self):
        for hall in (THREE_UNLIKE, FOUR_ALIKE, with_moved(FOUR_ALIKE, False), FOUR_UNLIKE):
            for one, other in ((LEAST, RANDOM), (RANDOM, LEAST), (TWO, RANDOM), (LEAST, TWO), (QUICK, LEAST)):
                self.assert_told(hall, one, other)

    def test_by_hand(self):
        word, run = never_worse(SMALL, RANDOM, LEAST)
        self.assertEqual((word, len(run)), ("worse", 2))
        self.assertEqual((run[0][0], run[1]), ("come", ("come", (0, 1))))
        word, paper = never_worse(SMALL, LEAST, RANDOM)
        self.assertEqual(word, "never")
        self.assertLessEqual(
            {((0, 0), (0, 0), 0), ((1, 0), (1, 0), 0), ((1, 1), (1, 0), 1), ((1, 1), (1, 1), 0), ((1, 0), (0, 0), 1)},
            set(paper),
        )

    def test_served_fewer_by_hand(self):
        # The quicker server is asked by quick alone; where it is done, least may have nobody there.
        hall = ((1, 4), (((1, 2), 6), ((1, 4), 6)), False)
        word, run = never_worse(hall, LEAST, QUICK)
        self.assertEqual(word, "worse")
        self.assertEqual(len(run), 2)
        self.assertEqual(run[1], ("done", 0))
        self.assertEqual(run[0], ("come", (1, 0)))

    def test_random_against_least(self):
        for room in (2, 3, 6):
            hall = alike_hall(2, room)
            word, run = never_worse(hall, RANDOM, LEAST)
            self.assertEqual(word, "worse")
            self.assertFalse(any_worse_within(hall, RANDOM, LEAST, len(run) - 1))

    def test_a_rule_and_itself(self):
        for sample in PAIRED + (SIXTY, FOUR_UNLIKE):
            for hall in (sample, with_moved(sample, not sample[2])):
                for rule in some_rules(hall):
                    self.assertEqual(self.assert_told(hall, rule, rule), "never")

    def test_many_lines_and_few_pairs(self):
        # However many LINES the hall has: few of them come by these rules.
        nobody = ("told", (3,) * 2401)
        for hall in (LARGEST, with_moved(LARGEST, True)):
            self.assertEqual(len(all_lines(hall)), 2401)
            self.assertEqual(self.assert_told(hall, nobody, nobody), "never")
        self.assertEqual(self.assert_told(LARGEST, ("told", (0,) * 2401), nobody), "worse")

    def test_same_both_ways_only_where_nothing_differs(self):
        for hall in PAIRED:
            for one, other in itertools.combinations([(word,) for word in WORDS], 2):
                if never_worse(hall, one, other)[0] == never_worse(hall, other, one)[0] == "never":
                    for seed in range(4):
                        run = run_of(hall, 80, seed)
                        self.assertEqual(list(walked_by(hall, one, run)), list(walked_by(hall, other, run)))

    def test_asked_again(self):
        for hall in (SMALL, TWO_UNLIKE):
            for one, other in itertools.product(some_rules(hall), repeat=2):
                first, second = never_worse(hall, one, other), never_worse(hall, one, other)
                self.assertEqual(first[0], second[0])

    def test_filled_one_by_one(self):
        # The told rule fills the first line first: worse where the other server is done.
        hall = alike_hall(2, 6)
        fills = ("told", tuple(0 if lines[0] < 6 else 1 for lines in all_lines(hall)))
        word, run = never_worse(hall, fills, LEAST)
        self.assertEqual(word, "worse")
        self.assertEqual(len(run), 3)
        self.assertFalse(any_worse_within(hall, fills, LEAST, 2))


class ByTurnsTest(NeverCase):
    def test_refused(self):
        for hall in HALLS + (LARGEST,):
            for rule in rules_of(hall):
                self.assert_by_turns_refused(hall, TURNS, rule)
                self.assert_by_turns_refused(hall, rule, TURNS)


class StandingsTest(NeverCase):
    def test_order_and_words(self):
        for sample in (ONE_SERVER, SMALL, TWO_ALIKE, TWO_MOVED, TWO_UNLIKE, THREE_SMALL):
            for hall in (sample, with_moved(sample, not sample[2])):
                before = copy.deepcopy(hall)
                found = standings(hall)
                self.assertEqual(hall, before)
                self.assertIs(type(found), tuple)
                self.assertEqual(len(found), 12)
                self.assertEqual([triple[:2] for triple in found], list(itertools.permutations(WORDS, 2)))
                for triple in found:
                    self.assertIs(type(triple), tuple)
                    self.assertEqual(len(triple), 3)
                    one, other, word = triple
                    self.assertEqual(word, never_worse(hall, (one,), (other,))[0])

    def test_by_hand(self):
        self.assertEqual(
            standings(SMALL),
            (
                ("random", "two", "worse"), ("random", "least", "worse"), ("random", "quick", "worse"),
                ("two", "random", "never"), ("two", "least", "never"), ("two", "quick", "never"),
                ("least", "random", "never"), ("least", "two", "never"), ("least", "quick", "never"),
                ("quick", "random", "never"), ("quick", "two", "never"), ("quick", "least", "never"),
            ),
        )
        self.assertEqual({word for _, _, word in standings(ONE_SERVER)}, {"never"})

    def test_alike_halls(self):
        for many, room in ((3, 1), (3, 2), (4, 1)):
            worse = {("random", other) for other in ("two", "least", "quick")} | {("two", "least"), ("two", "quick")}
            for one, other, word in standings(alike_hall(many, room)):
                self.assertEqual(word, "worse" if (one, other) in worse else "never", (many, room, one, other))


class BetweenTest(NeverCase):
    def test_alike_halls(self):
        for many, rooms in ((1, range(1, 7)), (2, range(1, 7)), (3, (1, 2, 3)), (4, (1, 2))):
            for room in rooms:
                hall = alike_hall(many, room)
                before = copy.deepcopy(hall)
                papers = between(hall)
                self.assertEqual(hall, before)
                self.assertIs(type(papers), tuple)
                self.assertEqual(len(papers), 2)
                self.assertIs(lets_never(hall, TWO, RANDOM, papers[0]), True)
                self.assertIs(lets_never(hall, LEAST, TWO, papers[1]), True)

    def test_other_shares(self):
        for hall in (((1, 10000), (((1, 3), 2),) * 2, False), ((4, 5), (((1, 10), 2),) * 2, False)):
            papers = between(hall)
            self.assertIs(lets_never(hall, TWO, RANDOM, papers[0]), True)
            self.assertIs(lets_never(hall, LEAST, TWO, papers[1]), True)

    def test_no_alike(self):
        for hall in (
            TWO_UNLIKE, THREE_UNLIKE, FOUR_UNLIKE, TWO_MOVED, ONE_MOVED, with_moved(THREE_ALIKE, True), FOUR_ALIKE,
            ((1, 2), (((1, 4), 1), ((1, 4), 2)), False), ((1, 2), (((1, 4), 2), ((1, 8), 2)), False),
            with_moved(TWO_UNLIKE, True),
        ):
            with self.assertRaises(NoAlike) as caught:
                between(hall)
            self.assertIs(type(caught.exception), NoAlike)
            self.assertIsInstance(caught.exception, LineError)


class WholeTest(NeverCase):
    def test_the_shortest_is_never_worse(self):
        for many, room in ((1, 3), (2, 1), (2, 2), (2, 4), (3, 1), (3, 2), (4, 1)):
            hall = alike_hall(many, room)
            for rule in some_rules(hall) + some_rules(hall, 2)[-2:] + [("told", places_of(hall, 1))]:
                self.assertEqual(self.assert_told(hall, LEAST, rule), "never", (many, room, rule))

    def test_the_shorter_of_two_is_never_worse_than_random(self):
        for many, room in ((1, 6), (2, 3), (3, 3), (4, 2)):
            self.assertEqual(self.assert_told(alike_hall(many, room), TWO, RANDOM), "never")

    def test_the_n_longest(self):
        # Promise 6: the n longest by the one rule are never more than by the other but for those turned away.
        for hall in (alike_hall(3, 2), alike_hall(4, 1), alike_hall(2, 5)):
            for one, other in ((LEAST, TWO), (TWO, RANDOM), (LEAST, RANDOM)):
                for x, y, lead in never_worse(hall, one, other)[1]:
                    for many in range(1, len(x) + 1):
                        self.assertLessEqual(sum(x[:many]), sum(y[:many]) + lead)

    def test_all_runs_of_small_halls(self):
        # Just one of both is told: against each run of up to so many moves.
        for hall, most in ((ONE_SERVER, 6), (SMALL, 5), (with_moved(SMALL, True), 5), (TWO_UNLIKE, 4)):
            for one, other in itertools.product([(word,) for word in WORDS], repeat=2):
                word, shown = never_worse(hall, one, other)
                shortest = None
                for length in range(1, most + 1):
                    if any(
                        is_worse_behind(hall, one, other, run)[-1]
                        for run in itertools.product(moves_of(hall), repeat=length)
                    ):
                        shortest = length
                        break
                if word == "never":
                    self.assertIsNone(shortest)
                elif len(shown) <= most:
                    self.assertEqual(shortest, len(shown))
                else:
                    self.assertIsNone(shortest)

    def test_kept_lines_are_told_in_papers(self):
        for hall in (TWO_ALIKE, TWO_MOVED, THREE_ALIKE):
            for x, y, _ in never_worse(hall, LEAST, LEAST)[1]:
                self.assertEqual((x, y), (kept(hall, x), kept(hall, y)))


if __name__ == "__main__":
    unittest.main()
