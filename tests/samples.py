"""Things that several tests hand in: halls, rules, runs, and plain things that are of no asked kind."""

import random
from fractions import Fraction
from math import factorial

from shorterline.errors import TooMany
from shorterline.halls import all_lines
from shorterline.moves import all_orders, moved_on
from shorterline.sharing import shares_of

HALF = (1, 2)

ONE_SERVER = ((1, 3), (((1, 2), 3),), False)
ONE_MOVED = ((1, 3), (((1, 2), 6),), True)
TWO_ALIKE = ((1, 2), (((1, 4), 2), ((1, 4), 2)), False)
TWO_MOVED = ((1, 2), (((1, 4), 3), ((1, 4), 3)), True)
TWO_UNLIKE = ((1, 5), (((1, 2), 1), ((3, 10), 6)), False)
THREE_ALIKE = ((2, 5), (((1, 5), 2),) * 3, False)
THREE_UNLIKE = ((1, 7), (((2, 7), 2), ((1, 7), 1), ((3, 14), 3)), True)
FOUR_ALIKE = ((1, 9), (((2, 9), 1),) * 4, True)
FOUR_UNLIKE = (
    (1, 10000),
    (((1, 10), 1), ((1, 5), 2), ((3, 10), 1), ((3, 10), 2)),
    False,
)

HALLS = (
    ONE_SERVER, ONE_MOVED, TWO_ALIKE, TWO_MOVED, TWO_UNLIKE,
    THREE_ALIKE, THREE_UNLIKE, FOUR_ALIKE, FOUR_UNLIKE,
)

# By turns, too, sixty stands at most come here.
THREE_SMALL = ((1, 4), (((1, 4), 1), ((1, 8), 2), ((1, 8), 1)), False)

# Of these more than sixty stands come by most rules.
LARGE = ((1, 9), (((2, 9), 6),) * 3, False)
LARGEST = ((1, 10), (((1, 5), 6), ((1, 10), 6), ((1, 5), 6), ((3, 10), 6)), False)

# By random sixty-one stands come here.
SIXTY_ONE = ((1, 4), (((1, 8), 3), ((1, 8), 3), ((1, 8), 6)), True)
SIXTY = ((1, 4), (((1, 8), 2), ((1, 8), 3), ((1, 8), 4)), False)

WORDS = ("random", "turns", "two", "least", "quick")


def places_of(hall, start=0):
    """Places that tell several lines, so that a wrong place shows."""
    many = len(hall[1])
    return tuple((start + 2 * number + number // many) % many for number in range(len(all_lines(hall))))


def rules_of(hall):
    return [(word,) for word in WORDS] + [("told", places_of(hall))]


def told_by(hall, choice):
    """The told rule that sends as a choice of a line for each LINES says."""
    return ("told", tuple(choice(lines) for lines in all_lines(hall)))


def turns_of(hall, rule):
    return range(len(hall[1])) if rule == ("turns",) else (0,)


def stands_of(hall, rule):
    """All stands by a rule, rising, come or not."""
    return [(lines, turn) for lines in all_lines(hall) for turn in turns_of(hall, rule)]


def moves_of(hall):
    lines = range(len(hall[1]))
    return [("come", order) for order in all_orders(hall)] + [("done", line) for line in lines] + [("still",)]


STILL = ("still",)


def come(*order):
    return ("come", order)


def done(line):
    return ("done", line)


def run_of(hall, many, seed, comes=2):
    """A run of so many moves, the same for each seed; the more comes, the more askers."""
    dice = random.Random(seed)
    orders = all_orders(hall)
    moves = []
    for _ in range(many):
        throw = dice.randrange(comes + len(hall[1]) + 1)
        if throw < comes:
            moves.append(("come", dice.choice(orders)))
        elif throw < comes + len(hall[1]):
            moves.append(("done", throw - comes))
        else:
            moves.append(("still",))
    return tuple(moves)


def with_rest(hall):
    """The hall with all shares halved, so that something of a turn is left."""
    come, servers, moved = hall
    return (pair(number(come) / 2), tuple((pair(number(speed) / 2), room) for speed, room in servers), moved)


def without_rest(hall):
    """The hall with all shares grown alike, so that nothing of a turn is left."""
    come, servers, moved = hall
    whole = number(come) + sum(number(speed) for speed, _ in servers)
    return (pair(number(come) / whole), tuple((pair(number(speed) / whole), room) for speed, room in servers), moved)


def with_moved(hall, moved):
    return (hall[0], hall[1], moved)


def number(fraction):
    """A FRACTION as Python's own."""
    return Fraction(fraction[0], fraction[1])


def pair(value):
    """Python's own fraction as a FRACTION."""
    value = Fraction(value)
    return (value.numerator, value.denominator)


def share_of(hall, move):
    """A move's share of a turn as promise 20 words it."""
    if move[0] == "come":
        return number(hall[0]) / factorial(len(hall[1]))
    if move[0] == "done":
        return number(hall[1][move[1]][0])
    return 1 - number(hall[0]) - sum(number(speed) for speed, _ in hall[1])


def left(hall, rule, shares):
    """What a turn leaves of shares by stands, each move made by moved_on."""
    behind = {}
    for stand, share in shares.items():
        for move in moves_of(hall):
            if share_of(hall, move) > 0:
                to = moved_on(hall, rule, stand, move)[0]
                behind[to] = behind.get(to, 0) + share * share_of(hall, move)
    return behind


def told(shares):
    """Shares by stands as a tuple of pairs (stand, share), rising."""
    return tuple((stand, pair(shares[stand])) for stand in sorted(shares))


# Fees and lesses: 0, small ones, and those at the bounds of promise 50.
FEES = ((0, 1), (1, 10000), (3, 2), (10000, 1))
LESSES = ((0, 1), (1, 10000), (2, 3), (9999, 10000))


def made_of(hall, rule, fee, less, worths, stand):
    """What promise 50 has of a stand by worths, Python's own fractions by stands: each move made by moved_on."""
    mean = Fraction(0)
    for move in moves_of(hall):
        behind, word = moved_on(hall, rule, stand, move)
        mean += share_of(hall, move) * (worths[behind] + (number(fee) if word == "away" else 0))
    return sum(stand[0]) + number(less) * mean


def price_by_hand(hall, fee, table, lines, line):
    """The price of a line as promise 51 words it, by Python's own fractions and moved_on."""
    places = all_lines(hall)
    (behind, _), word = moved_on(hall, ("told", (line,) * len(places)), (lines, 0), ("come", all_orders(hall)[0]))
    return number(table[places.index(behind)]) + (number(fee) if word == "away" else 0)


def kept(hall, lines):
    """KEPT lines as promise 60 words them."""
    alike = len(set(hall[1])) == 1
    return tuple(sorted(lines)[::-1]) if alike else lines


def kept_behind(hall, rule, lines, move):
    """The kept lines behind a move of kept lines, and the move's word."""
    (behind, _), word = moved_on(hall, rule, (lines, 0), move)
    return kept(hall, behind), word


def lead_behind(lead, one_word, other_word):
    """How many more the other rule turned away behind a move of these words."""
    return lead + (other_word == "away") - (one_word == "away")


def all_behind(hall, one, other, triple):
    """What all moves make of a triple (x, y, lead)."""
    x, y, lead = triple
    for move in moves_of(hall):
        (to_x, one_word), (to_y, other_word) = kept_behind(hall, one, x, move), kept_behind(hall, other, y, move)
        yield move, (to_x, to_y, lead_behind(lead, one_word, other_word))


def begin_of(hall):
    return ((0,) * len(hall[1]), (0,) * len(hall[1]), 0)


def papers(halls=HALLS + (THREE_SMALL,)):
    """Halls and rules with their share papers, where sixty stands at most come."""
    for hall in halls:
        for rule in rules_of(hall):
            try:
                paper = shares_of(hall, rule)
            except TooMany:
                continue
            yield hall, rule, paper


def product_paper(hall):
    """The share paper by random, askers not moved: there each line goes by itself.

    In a line one more is there by come / lines, one less by speed, so each number of askers has the share of the one
    below it times the quotient of both.
    """
    come, servers, _ = hall
    shares = {}
    for lines in all_lines(hall):
        share = Fraction(1)
        for many, (speed, _) in zip(lines, servers):
            share *= (number(come) / len(servers) / number(speed)) ** many
        shares[(lines, 0)] = share
    whole = sum(shares.values())
    return told({stand: share / whole for stand, share in shares.items()})


def lines_turned(lines, order):
    """LINES of a hall as they stand in the hall turned by an ORDER."""
    return tuple(lines[line] for line in order)


def rule_turned(hall, rule, order):
    """A rule of a hall as that of the hall turned by an ORDER."""
    if rule[0] != "told":
        return rule
    told = {lines_turned(lines, order): order.index(line) for lines, line in zip(all_lines(hall), rule[1])}
    return ("told", tuple(told[lines] for lines in sorted(told)))


def run_turned(run, order):
    """A run of a hall as that of the hall turned by an ORDER."""
    turned = []
    for move in run:
        if move[0] == "come":
            move = ("come", tuple(order.index(line) for line in move[1]))
        elif move[0] == "done":
            move = ("done", order.index(move[1]))
        turned.append(move)
    return tuple(turned)


def nested(depth):
    """A plain thing with so many tuples within one another."""
    thing = 1
    for _ in range(depth):
        thing = (thing,)
    return thing


ODD_THINGS = (
    None, True, False, 0, 1, -1, 10 ** 40 - 1, "", "a", "random", "still", "(1, 2)",
    [], [1, 2], (), (1,), ("",), (None,), {}, {0: 1, 1: 2}, {"random": True},
    (1, 2, 3, 4), ((), ()), ([], []), ({}, {}), nested(90), [[[[]]]],
)
