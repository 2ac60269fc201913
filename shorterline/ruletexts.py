"""RULEs as texts, written and read."""

from shorterline.errors import NoText
from shorterline.halls import count_of_lines, is_line
from shorterline.plain import read_figure
from shorterline.rules import SINGLE_WORDS


def rule_text(rule):
    """The text that writes a rule."""
    if len(rule) == 1:
        return rule[0]
    return " ".join([rule[0]] + [str(line) for line in rule[1]])


def read_places(hall, words):
    """The places that the words behind "told" write, or NoText."""
    count = count_of_lines(hall)
    places = []
    for number in range(1, len(words)):
        line = read_figure(words[number])
        if len(places) == count or not is_line(hall, line):
            raise NoText(number)
        places.append(line)
    if len(places) < count:
        raise NoText(len(words))
    return tuple(places)


def read_rule(hall, text):
    """The rule of a hall that any text writes, or NoText of the first word amiss."""
    words = text.split(" ")
    if words[0] == "told":
        return ("told", read_places(hall, words))
    if words[0] not in SINGLE_WORDS:
        raise NoText(0)
    if len(words) > 1:
        raise NoText(1)
    return (words[0],)
