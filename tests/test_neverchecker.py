"""Promises 60, 61 and 5: kept lines, and the small checker of never papers."""

import copy
import itertools
import random
import unittest
from unittest import mock

from samples import (
    FOUR_ALIKE, FOUR_UNLIKE, HALLS, ODD_THINGS, ONE_SERVER, SIXTY, THREE_ALIKE, THREE_SMALL, THREE_UNLIKE, TWO_ALIKE,
    TWO_MOVED, TWO_UNLIKE, all_behind, begin_of, kept, places_of, rules_of, with_moved,
)
from shorterline.errors import LineError, NoNever
from shorterline.halls import all_lines, is_alike
from shorterline.neverchecker import kept_lines, lets_never
from shorterline.nevers import never_worse

RANDOM = ("random",)
TURNS = ("turns",)
TWO = ("two",)
LEAST = ("least",)
QUICK = ("quick",)

# Two alike servers of room 1: the shortest line against a random one, all by hand.
SMALL = ((1, 2), (((1, 4), 1), ((1, 4), 1)), False)
BY_HAND = (
    ((0, 0), (0, 0), 0),
    ((1, 0), (1, 0), 0),
    ((1, 1), (1, 0), 1),
    ((1, 1), (1, 1), 0),
    ((1, 0), (0, 0), 1),
)

SIXTY_FOUR = ((1, 4), (((1, 4), 3),) * 3, False)
SIXTY_FOUR_UNLIKE = ((1, 4), (((1, 4), 3), ((1, 8), 3), ((1, 8), 3)), True)


def first_amiss(hall, one, other, paper):
    """What promise 60 tells of a paper of right shape, of rules that are not by turns."""
    if begin_of(hall) not in paper:
        return ("begin", -1)
    for at, (x, y, lead) in enumerate(paper):
        if sum(x) > sum(y) + lead:
            return ("less", at)
        for _, (to_x, to_y, to_lead) in all_behind(hall, one, other, (x, y, lead)):
            if not any((a, b) == (to_x, to_y) and 0 <= many <= to_lead for a, b, many in paper):
                return ("move", at)
    return None


def told_papers():
    """Halls and rules with never papers that were told, of at most two hundred triples."""
    for sample in HALLS[:8] + (THREE_SMALL,):
        for hall in (sample, with_moved(sample, not sample[2])):
            rules = [rule for rule in rules_of(hall) if rule != TURNS]
            for one, other in itertools.product(rules, repeat=2):
                word, paper = never_worse(hall, one, other)
                if word == "never" and len(paper) <= 200:
                    yield hall, one, other, paper


def closed(hall, one, other, starts):
    """All that these triples lead to, each pair with its least lead, or None where that shows nothing."""
    leads = {}
    left = list(starts)
    while left:
        x, y, lead = left.pop()
        if lead < 0 or sum(x) > sum(y) + lead:
            return None
        if leads.get((x, y), lead + 1) > lead:
            leads[(x, y)] = lead
            left.extend(triple for _, triple in all_behind(hall, one, other, (x, y, lead)))
    return tuple((x, y, lead) for (x, y), lead in leads.items())


def put(things, at, thing):
    return things[:at] + (thing,) + things[at + 1:]


def put_in(things, at, thing):
    return things[:at] + (thing,) + things[at:]


class NeverCase(unittest.TestCase):
    def assert_let_by(self, hall, one, other, thing):
        before = copy.deepcopy((hall, one, other, thing))
        self.assertIs(lets_never(hall, one, other, thing), True)
        self.assertEqual((hall, one, other, thing), before)

    def assert_refused(self, hall, one, other, thing, word, place=-1):
        before = copy.deepcopy((hall, one, other, thing))
        with self.assertRaises(NoNever) as caught:
            lets_never(hall, one, other, thing)
        self.assertIs(type(caught.exception), NoNever)
        self.assertIsInstance(caught.exception, LineError)
        self.assertEqual((caught.exception.word, caught.exception.number), (word, place), thing)
        self.assertIs(type(caught.exception.number), int)
        self.assertEqual((hall, one, other, thing), before)
        self.assertEqual(repr((hall, one, other, thing)), repr(before))

    def assert_as_told(self, hall, one, other, paper):
        fault = first_amiss(hall, one, other, paper)
        if fault is None:
            self.assert_let_by(hall, one, other, paper)
        else:
            self.assert_refused(hall, one, other, paper, *fault)
        return fault


class KeptLinesTest(unittest.TestCase):
    def test_alike_and_other_halls(self):
        for hall in HALLS:
            for lines in all_lines(hall):
                before = copy.deepcopy((hall, lines))
                found = kept_lines(hall, lines)
                self.assertIs(type(found), tuple)
                self.assertEqual(found, tuple(sorted(lines)[::-1]) if is_alike(hall) else lines)
                self.assertEqual((hall, lines), before)

    def test_by_hand(self):
        self.assertEqual(kept_lines(THREE_ALIKE, (0, 2, 1)), (2, 1, 0))
        self.assertEqual(kept_lines(FOUR_ALIKE, (0, 1, 0, 1)), (1, 1, 0, 0))
        self.assertEqual(kept_lines(TWO_UNLIKE, (0, 6)), (0, 6))
        self.assertEqual(kept_lines(ONE_SERVER, (2,)), (2,))

    def test_alike_speeds_or_rooms_alone(self):
        self.assertEqual(kept_lines(((1, 2), (((1, 4), 1), ((1, 4), 2)), False), (0, 2)), (0, 2))
        self.assertEqual(kept_lines(((1, 2), (((1, 4), 2), ((1, 8), 2)), False), (0, 2)), (0, 2))


class LetByTest(NeverCase):
    def test_by_hand(self):
        for one, other in itertools.product((TWO, LEAST, QUICK), (RANDOM,)):
            self.assertIsNone(first_amiss(SMALL, one, other, BY_HAND))
            self.assert_let_by(SMALL, one, other, BY_HAND)

    def test_in_any_order(self):
        for order in itertools.permutations(BY_HAND):
            self.assert_let_by(SMALL, LEAST, RANDOM, order)

    def test_triples_twice(self):
        for at in range(5):
            self.assert_let_by(SMALL, LEAST, RANDOM, BY_HAND + (BY_HAND[at],))
            self.assert_let_by(SMALL, LEAST, RANDOM, (BY_HAND[at],) + BY_HAND)
        self.assert_let_by(SMALL, LEAST, RANDOM, BY_HAND * 3)

    def test_greater_leads_beside_lesser_ones(self):
        for many in (1, 2, 7, 10 ** 12 - 1, 10 ** 12, 10 ** 12 + 1, 10 ** 39):
            more = tuple((x, y, lead + many) for x, y, lead in BY_HAND)
            self.assert_let_by(SMALL, LEAST, RANDOM, BY_HAND + more)
            self.assert_let_by(SMALL, LEAST, RANDOM, more + BY_HAND)

    def test_greater_leads_that_are_closed(self):
        # Nobody comes to the second place by the other rule, which so turns away more and more.
        other = ("told", (0,) * 4)
        word, paper = never_worse(SMALL, LEAST, other)
        self.assertEqual(word, "never")
        for many in (1, 10 ** 12, 10 ** 40):
            triples = tuple((x, y, lead + many) for x, y, lead in paper)
            self.assert_let_by(SMALL, LEAST, other, paper + triples)
            self.assert_refused(SMALL, LEAST, other, (begin_of(SMALL),) + triples, "move", 0)
        # Without the lesser one beside it a greater lead is more than what leads there shows.
        paper = (((0, 0), (0, 0), 0), ((1, 0), (1, 0), 0), ((1, 1), (1, 0), 1), ((1, 0), (0, 0), 1))
        self.assert_let_by(SMALL, LEAST, other, paper)
        self.assert_refused(SMALL, LEAST, other, put(paper, 2, ((1, 1), (1, 0), 2)), "move", 1)

    def test_a_rule_and_itself(self):
        for sample in HALLS[:8] + (SIXTY, SIXTY_FOUR, SIXTY_FOUR_UNLIKE):
            for hall in (sample, with_moved(sample, not sample[2])):
                paper = tuple((lines, lines, 0) for lines in sorted({kept(hall, lines) for lines in all_lines(hall)}))
                for rule in rules_of(hall):
                    if rule != TURNS:
                        self.assert_let_by(hall, rule, rule, paper)

    def test_alike_rules_of_other_words(self):
        # In alike halls the quickest is the shortest; of two lines both are asked by two.
        for hall, one, other in (
            (THREE_ALIKE, LEAST, QUICK), (THREE_ALIKE, QUICK, LEAST), (TWO_UNLIKE, TWO, LEAST), (ONE_SERVER, RANDOM, TWO),
        ):
            paper = tuple((lines, lines, 0) for lines in sorted({kept(hall, lines) for lines in all_lines(hall)}))
            self.assert_let_by(hall, one, other, paper)

    def test_told_papers(self):
        seen = set()
        for hall, one, other, paper in told_papers():
            self.assertIsNone(self.assert_as_told(hall, one, other, paper))
            seen.add((is_alike(hall), hall[2], one[0], other[0]))
        self.assertGreater(len(seen), 40)

    def test_one_server(self):
        paper = tuple(((many,), (many,), 0) for many in range(4))
        self.assert_let_by(ONE_SERVER, RANDOM, LEAST, paper)
        self.assert_refused(ONE_SERVER, RANDOM, LEAST, paper[:1], "move", 0)


class RuleTest(NeverCase):
    def test_by_turns_ahead_of_all(self):
        for hall in HALLS:
            for rule in rules_of(hall):
                for thing in (None, (), [], 3, "shape", (begin_of(hall),), ((),)):
                    self.assert_refused(hall, TURNS, rule, thing, "rule")
                    self.assert_refused(hall, rule, TURNS, thing, "rule")

    def test_by_turns_of_a_right_paper(self):
        self.assert_refused(SMALL, LEAST, TURNS, BY_HAND, "rule")
        self.assert_refused(SMALL, TURNS, RANDOM, BY_HAND, "rule")
        self.assert_refused(SMALL, TURNS, TURNS, BY_HAND, "rule")


class ShapeTest(NeverCase):
    def test_other_kinds(self):
        for hall in HALLS:
            begin = begin_of(hall)
            for thing in ODD_THINGS:
                wrongs = [
                    (thing,), (begin, thing), (thing, begin), ((begin[0], begin[1], thing, 0),),
                ]
                if len(hall[1]) > 1 or thing != (1,):
                    wrongs += [((thing, begin[1], 0),), ((begin[0], thing, 0),)]
                if thing != ():
                    wrongs.append(thing)
                if type(thing) is not int or thing < 0:
                    wrongs.append(((begin[0], begin[1], thing),))
                for wrong in wrongs:
                    self.assert_refused(hall, LEAST, RANDOM, wrong, "shape")

    def test_lists_for_tuples(self):
        self.assert_refused(SMALL, LEAST, RANDOM, list(BY_HAND), "shape")
        for at, (x, y, lead) in enumerate(BY_HAND):
            for wrong in ([x, y, lead], (list(x), y, lead), (x, list(y), lead), (x, y, [lead])):
                self.assert_refused(SMALL, LEAST, RANDOM, put(BY_HAND, at, wrong), "shape")

    def test_truths_for_numbers(self):
        for at, (x, y, lead) in enumerate(BY_HAND):
            for wrong in (
                (tuple(map(bool, x)), y, lead), (x, tuple(map(bool, y)), lead), (x, y, bool(lead)),
                (x[:1] + (bool(x[1]),), y, lead),
            ):
                self.assertEqual(wrong, (x, y, lead))
                self.assert_refused(SMALL, LEAST, RANDOM, put(BY_HAND, at, wrong), "shape")

    def test_other_lengths(self):
        for at, (x, y, lead) in enumerate(BY_HAND):
            for wrong in (
                (x, y), (x, y, lead, 0), (x + (0,), y, lead), (x, y + (0,), lead), (x[:1], y, lead), (x, y[:1], lead),
                ((x, y), lead), (), (x, y, (lead,)), (lead, x, y), x + y + (lead,),
            ):
                self.assert_refused(SMALL, LEAST, RANDOM, put(BY_HAND, at, wrong), "shape")
        self.assert_refused(SMALL, LEAST, RANDOM, (BY_HAND,), "shape")
        self.assert_refused(SMALL, LEAST, RANDOM, BY_HAND[0], "shape")

    def test_beyond_a_room_and_below_0(self):
        for wrong in (
            ((2, 0), (1, 0), 1), ((1, 0), (2, 0), 1), ((1, -1), (1, 0), 1), ((1, 0), (1, -1), 1), ((1, 0), (1, 0), -1),
            ((1, 0), (1, 0), -(10 ** 12)), ((1, None), (1, 0), 0), ((1, 0), (1, "0"), 0), ((1, 0), (1, 0), None),
        ):
            for at in range(6):
                self.assert_refused(SMALL, LEAST, RANDOM, put_in(BY_HAND, at, wrong), "shape")
        self.assert_refused(TWO_UNLIKE, LEAST, LEAST, (((2, 0), (0, 0), 2),), "shape")

    def test_lines_that_are_not_kept(self):
        for at in range(6):
            for wrong in (((0, 1), (1, 0), 0), ((1, 0), (0, 1), 0), ((0, 1), (0, 1), 0), ((0, 1), (1, 1), 3)):
                self.assert_refused(SMALL, LEAST, RANDOM, put_in(BY_HAND, at, wrong), "shape")
        # In other halls lines are kept as they are.
        hall = ((1, 2), (((1, 4), 1), ((1, 8), 1)), False)
        paper = tuple((lines, lines, 0) for lines in all_lines(hall))
        self.assertIn(((0, 1), (0, 1), 0), paper)
        self.assert_let_by(hall, LEAST, LEAST, paper)
        self.assert_refused(SMALL, LEAST, LEAST, paper, "shape")

    def test_shape_ahead_of_begin_less_and_move(self):
        self.assert_refused(SMALL, LEAST, RANDOM, BY_HAND[1:] + (None,), "shape")
        self.assert_refused(SMALL, LEAST, RANDOM, (((1, 1), (0, 0), 0), ((0, 1), (0, 1), 0)), "shape")


class BeginTest(NeverCase):
    def test_no_begin(self):
        for hall in HALLS:
            self.assert_refused(hall, LEAST, RANDOM, (), "begin")
        self.assert_refused(SMALL, LEAST, RANDOM, BY_HAND[1:], "begin")

    def test_void_lines_with_another_lead(self):
        for lead in (1, 2, 10 ** 12):
            self.assert_refused(SMALL, LEAST, RANDOM, put(BY_HAND, 0, ((0, 0), (0, 0), lead)), "begin")

    def test_ahead_of_less_and_move(self):
        self.assert_refused(SMALL, LEAST, RANDOM, (((1, 1), (0, 0), 0),) + BY_HAND[1:], "begin")
        self.assert_refused(SMALL, LEAST, RANDOM, BY_HAND[2:], "begin")

    def test_told_papers_without_it(self):
        for hall, one, other, paper in told_papers():
            rest = tuple(triple for triple in paper if triple != begin_of(hall))
            self.assert_refused(hall, one, other, rest, "begin")


class LessTest(NeverCase):
    def test_each_number(self):
        # What is put in takes nothing away from the others.
        for wrong in (((1, 0), (0, 0), 0), ((1, 1), (0, 0), 1), ((1, 1), (0, 0), 0), ((1, 1), (1, 0), 0)):
            for at in range(6):
                paper = put_in(BY_HAND, at, wrong)
                self.assertEqual(first_amiss(SMALL, LEAST, RANDOM, paper), ("less", at))
                self.assert_refused(SMALL, LEAST, RANDOM, paper, "less", at)

    def test_just_as_many(self):
        self.assertEqual(sum(BY_HAND[2][0]), sum(BY_HAND[2][1]) + BY_HAND[2][2])
        self.assert_let_by(SMALL, LEAST, RANDOM, BY_HAND)

    def test_of_larger_halls(self):
        for hall in (TWO_ALIKE, THREE_ALIKE, THREE_UNLIKE):
            word, paper = never_worse(hall, LEAST, LEAST)
            full = tuple(room for _, room in hall[1])
            for lead in (0, 1, sum(full) - 1):
                for at in (0, 1, len(paper) // 2, len(paper)):
                    self.assert_refused(hall, LEAST, LEAST, put_in(paper, at, (full, begin_of(hall)[0], lead)), "less", at)

    def test_ahead_of_move_at_the_same_triple(self):
        wrong = ((1, 1), (0, 0), 1)
        others = [triple for _, triple in all_behind(SMALL, LEAST, RANDOM, wrong)]
        self.assertTrue(any(triple not in BY_HAND for triple in others))
        self.assert_refused(SMALL, LEAST, RANDOM, BY_HAND + (wrong,), "less", 5)

    def test_move_of_an_earlier_triple_goes_ahead(self):
        # The second triple leads to what lacks; the last one has too many.
        paper = BY_HAND[:2] + BY_HAND[3:] + (((1, 1), (0, 0), 0),)
        self.assertEqual(first_amiss(SMALL, LEAST, RANDOM, paper), ("move", 1))
        self.assert_refused(SMALL, LEAST, RANDOM, paper, "move", 1)


class MoveTest(NeverCase):
    def test_each_number(self):
        # With nobody there by the one rule there are never too many, but what is behind isn't there.
        wrong = ((0, 0), (1, 1), 0)
        for at in range(6):
            paper = put_in(BY_HAND, at, wrong)
            self.assertEqual(first_amiss(SMALL, LEAST, RANDOM, paper), ("move", at))
            self.assert_refused(SMALL, LEAST, RANDOM, paper, "move", at)

    def test_each_triple_left_out(self):
        for hall, one, other, paper in told_papers():
            places = range(len(paper)) if len(paper) < 30 else range(0, len(paper), 1 + len(paper) // 4)
            for at in places:
                if paper[at] != begin_of(hall):
                    fault = self.assert_as_told(hall, one, other, paper[:at] + paper[at + 1:])
                    self.assertEqual(fault[0], "move")

    def test_leads_changed(self):
        dice = random.Random(11)
        words = set()
        for hall, one, other, paper in told_papers():
            for _ in range(2):
                at = dice.randrange(len(paper))
                x, y, lead = paper[at]
                for changed in {max(lead - 1, 0), lead + 1, lead + 10 ** 12}:
                    fault = self.assert_as_told(hall, one, other, put(paper, at, (x, y, changed)))
                    words.add(fault and fault[0])
        self.assertLessEqual({"begin", "less", "move", None}, words)

    def test_lead_one_less_where_the_one_alone_turns_away(self):
        # By random against least an asker is turned away alone, so a lead of 0 would fall below 0.
        paper = tuple((lines, lines, 0) for lines in ((0, 0), (1, 0), (1, 1)))
        self.assert_refused(SMALL, RANDOM, LEAST, paper, "move", 1)
        # With a lead of 1 ahead of it the lead behind is 0.
        paper = (((0, 0), (0, 0), 0), ((1, 0), (1, 0), 1), ((1, 0), (1, 1), 0))
        self.assert_refused(SMALL, RANDOM, LEAST, paper, "move", 0)
        self.assertIn(
            (("come", (0, 1)), ((1, 0), (1, 1), 0)), list(all_behind(SMALL, RANDOM, LEAST, ((1, 0), (1, 0), 1)))
        )

    def test_lead_one_more_where_the_other_alone_turns_away(self):
        # In the paper by hand the third triple needs just that.
        x, y, lead = BY_HAND[2]
        self.assertEqual(lead, 1)
        self.assert_refused(SMALL, LEAST, RANDOM, put(BY_HAND, 2, (x, y, 2)), "move", 1)
        self.assert_refused(SMALL, LEAST, RANDOM, put(BY_HAND, 2, (x, y, 0)), "less", 2)

    def test_lead_is_the_same_where_both_turn_away(self):
        # Both are full: a lead may stay as it is, however great.
        paper = BY_HAND + (((1, 1), (1, 1), 5),)
        self.assert_let_by(SMALL, LEAST, RANDOM, paper)

    def test_leads_near_a_great_number(self):
        great = 10 ** 12
        more = tuple((x, y, lead + great) for x, y, lead in BY_HAND)
        # A lead that is one too great somewhere, where no lesser one stands beside it.
        paper = BY_HAND[:1] + more
        self.assert_refused(SMALL, LEAST, RANDOM, paper, "move", 0)
        for at in range(5):
            x, y, lead = more[at]
            one_more = BY_HAND[:at] + BY_HAND[at + 1:] + put(more, at, (x, y, lead + 1))
            self.assertIsNotNone(self.assert_as_told(SMALL, LEAST, RANDOM, one_more))

    def test_still_and_void_done_count_where_askers_are_moved(self):
        # Lines that no move leaves are let in; still moves askers there, too.
        hall = TWO_MOVED
        paper = tuple((lines, lines, 0) for lines in sorted({kept(hall, lines) for lines in all_lines(hall)}))
        self.assert_let_by(hall, LEAST, LEAST, paper)
        odd = ((3, 0), (3, 0), 0)
        self.assertIn(odd, paper)
        self.assertIn((("still",), ((2, 1), (2, 1), 0)), list(all_behind(hall, LEAST, LEAST, odd)))
        rest = tuple(triple for triple in paper if triple[0] in ((0, 0), (1, 0), (1, 1), (2, 1), (2, 2), (3, 1)))
        fault = self.assert_as_told(hall, LEAST, LEAST, rest + (odd,))
        self.assertEqual(fault[0], "move")

    def test_each_move_is_looked_at(self):
        # A triple of which what is behind just one move lacks; a still is looked at where its share is 0, too.
        for speed in ((1, 4), (3, 8)):
            hall = ((1, 2), ((speed, 2), ((1, 8), 2)), True)
            for rule, moves in (
                (RANDOM, {("come", (0, 1)), ("come", (1, 0)), ("done", 0), ("done", 1)}),
                (QUICK, {("done", 0), ("done", 1), ("still",)}),
            ):
                seen = set()
                for x, y, lead in itertools.product(all_lines(hall), all_lines(hall), (0, 1)):
                    seen |= self.moves_that_lack(hall, rule, (x, y, lead))
                self.assertLessEqual(moves, seen)

    def moves_that_lack(self, hall, rule, triple):
        found = set()
        behind = list(all_behind(hall, rule, rule, triple))
        for left_out, _ in behind:
            starts = [begin_of(hall)] + [other for move, other in behind if move != left_out]
            paper = closed(hall, rule, rule, starts)
            if paper is None or sum(triple[0]) > sum(triple[1]) + triple[2]:
                continue
            if self.assert_as_told(hall, rule, rule, paper + (triple,)) is not None:
                self.assert_refused(hall, rule, rule, paper + (triple,), "move", len(paper))
                found.add(left_out)
        return found

    def test_other_rules(self):
        for hall, one, other, paper in told_papers():
            if len(paper) <= 60:
                self.assert_as_told(hall, other, one, paper)
                self.assert_as_told(hall, ("told", places_of(hall, 1)), other, paper)
                self.assert_as_told(hall, one, RANDOM, paper)
                self.assert_as_told(with_moved(hall, not hall[2]), one, other, paper)

    def test_told_rules_tell_the_place_of_kept_lines(self):
        # The fuller line is told, which in kept lines is the first one, so nobody ever comes to the second one.
        paper = (((0, 0), (0, 0), 0), ((1, 0), (1, 0), 0), ((2, 0), (2, 0), 0))
        for places in ((0,) * 9, (0, 1, 1, 0, 1, 1, 0, 1, 1)):
            # Places of LINES that are not kept are never asked.
            self.assert_let_by(TWO_ALIKE, ("told", places), ("told", (0,) * 9), paper)
        self.assert_refused(TWO_ALIKE, ("told", (0, 1, 1, 1, 1, 1, 0, 1, 1)), ("told", (0,) * 9), paper, "move", 1)

    def test_random_papers(self):
        dice = random.Random(12)
        words = set()
        for hall in (ONE_SERVER, SMALL, with_moved(SMALL, True), TWO_ALIKE, TWO_UNLIKE):
            lines = sorted({kept(hall, lines) for lines in all_lines(hall)})
            rules = [rule for rule in rules_of(hall) if rule != TURNS]
            for _ in range(60):
                triples = [(dice.choice(lines), dice.choice(lines), dice.randrange(3)) for _ in range(9)]
                pairs = [(one, one, 0) for one in lines]
                paper = tuple(dice.sample(pairs, len(pairs)) + triples)
                fault = self.assert_as_told(hall, dice.choice(rules), dice.choice(rules), paper)
                words.add(fault and fault[0])
        self.assertLessEqual({"less", "move"}, words)


class ShowsTest(NeverCase):
    def test_what_is_let_by_is_so(self):
        # Along each run of up to five moves, and along long ones.
        for hall, one, other, paper in told_papers():
            if len(hall[1]) > 2:
                continue
            self.assert_let_by(hall, one, other, paper)
            stage = {begin_of(hall)}
            for _ in range(5):
                stage = {triple for ahead in stage for _, triple in all_behind(hall, one, other, ahead)}
                for x, y, lead in stage:
                    self.assertGreaterEqual(lead, 0)
                    self.assertGreaterEqual(sum(y) + lead - sum(x), 0)

    def test_nothing_is_searched(self):
        word, paper = never_worse(THREE_ALIKE, LEAST, TWO)
        with mock.patch("shorterline.nevers.Search", side_effect=AssertionError):
            self.assert_let_by(THREE_ALIKE, LEAST, TWO, paper)

    def test_four_servers(self):
        for hall in (FOUR_ALIKE, with_moved(FOUR_ALIKE, False), FOUR_UNLIKE):
            word, paper = never_worse(hall, LEAST, LEAST)
            self.assert_let_by(hall, LEAST, LEAST, paper)


if __name__ == "__main__":
    unittest.main()
