"""RULEs: to which line an asker is sent."""

from shorterline.fractions import is_less
from shorterline.halls import count_of_lines, is_line, place_of_lines
from shorterline.plain import is_tuple_of

SINGLE_WORDS = ("random", "turns", "two", "least", "quick")


def is_places(hall, thing):
    """Whether any plain thing is a tuple with a line's number for each LINES."""
    if not is_tuple_of(thing, count_of_lines(hall)):
        return False
    for line in thing:
        if not is_line(hall, line):
            return False
    return True


def is_rule(hall, thing):
    """Whether any plain thing is a RULE of a hall."""
    if is_tuple_of(thing, 1):
        return thing[0] in SINGLE_WORDS
    return is_tuple_of(thing, 2) and thing[0] == "told" and is_places(hall, thing[1])


def first_shortest(lines, order):
    """The first line in the order among those with the fewest."""
    best = order[0]
    for line in order:
        if lines[line] < lines[best]:
            best = line
    return best


def wait_at(hall, lines, line):
    """How many would be at a line with one more asker, divided by its speed: a pair (top, bottom)."""
    # It is only compared, so a common divisor may stay.
    top, bottom = hall[1][line][0]
    return ((lines[line] + 1) * bottom, top)


def first_quickest(hall, lines, order):
    """The first line in the order among those where the wait is least."""
    best = order[0]
    least = wait_at(hall, lines, best)
    for line in order:
        wait = wait_at(hall, lines, line)
        if is_less(wait, least):
            best, least = line, wait
    return best


def sent_to(hall, rule, stand, order):
    """The line to which the rule sends an asker that asks in this order."""
    lines, turn = stand
    word = rule[0]
    if word == "random":
        return order[0]
    if word == "turns":
        return turn
    if word == "two":
        return first_shortest(lines, order[:2])
    if word == "least":
        return first_shortest(lines, order)
    if word == "quick":
        return first_quickest(hall, lines, order)
    return rule[1][place_of_lines(hall, lines)]
