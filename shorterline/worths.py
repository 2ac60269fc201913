"""What a rule is worth from each stand, and the prices of lines by a table of worths."""

from shorterline.errors import TooMany
from shorterline.fractions import added, fraction_of, is_less
from shorterline.halls import all_lines, count_of_lines, place_of_lines
from shorterline.moves import come_to, settled
from shorterline.sharing import solved
from shorterline.turnings import MOST_STANDS, weights_behind


def all_stands(hall, rule):
    """All stands by a rule, rising, or TooMany of more than sixty."""
    turns = len(hall[1]) if rule[0] == "turns" else 1
    if count_of_lines(hall) * turns > MOST_STANDS:
        raise TooMany("stands")
    return [(lines, turn) for lines in all_lines(hall) for turn in range(turns)]


def worth_row(hall, rule, fee, less, stands, at):
    """What the worth of a stand asks of all worths: a number for each, and last what these times them are together.

    The worths are taken times the fee's bottom, and the whole row times the bottoms of less and of a turn's shares.
    """
    left, words, whole = weights_behind(hall, rule, {stands[at]: 1})
    row = [-less[0] * left.get(behind, 0) for behind in stands]
    row[at] += less[1] * whole
    there = less[1] * whole * fee[1] * sum(stands[at][0])
    return row + [there + less[0] * fee[0] * words.get("away", 0)]


def worths_of(hall, rule, fee, less):
    """A rule's worth from each stand: a tuple of pairs (stand, worth), rising, or TooMany of more than sixty."""
    stands = all_stands(hall, rule)
    # As less is below 1, each row's own number outweighs all its others, so no step of the rows begins with a 0.
    weights, whole = solved([worth_row(hall, rule, fee, less, stands, at) for at in range(len(stands))])
    return tuple([(stand, fraction_of(weight, whole * fee[1])) for stand, weight in zip(stands, weights)])


def asked_at(hall, lines, line):
    """The pair (place, word) where an asker is sent to a line: the place of the lines behind that, and its word."""
    behind, word = come_to(hall, lines, line)
    return (place_of_lines(hall, settled(hall, behind)), word)


def price_of(hall, fee, table, lines, line):
    """The price of a line, of LINES, by a table of worths."""
    place, word = asked_at(hall, lines, line)
    if word == "away":
        return added(table[place], fee)
    return table[place]


def look_ahead(hall, fee, table, lines):
    """The least line of the least price by a table of worths."""
    best = 0
    least = price_of(hall, fee, table, lines, best)
    for line in range(1, len(lines)):
        price = price_of(hall, fee, table, lines, line)
        if is_less(price, least):
            best, least = line, price
    return best
