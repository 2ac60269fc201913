"""The small checker of best papers: it solves nothing and searches nothing."""

from shorterline.errors import NoBest
from shorterline.fractions import is_fraction, on_one_bottom
from shorterline.halls import all_lines, count_of_lines, place_of_lines
from shorterline.moves import done_at, settled
from shorterline.plain import is_tuple_of
from shorterline.rules import is_places
from shorterline.worths import asked_at


def is_table(hall, thing):
    """Whether any plain thing is a TABLE of worths of a hall."""
    if not is_tuple_of(thing, count_of_lines(hall)):
        return False
    for worth in thing:
        if not is_fraction(worth):
            return False
    return True


def is_best_paper(hall, thing):
    """Whether any plain thing is a BEST PAPER by kind."""
    return is_tuple_of(thing, 2) and is_places(hall, thing[0]) and is_table(hall, thing[1])


def whole_worths(fee, table):
    """A table and a fee as whole numbers on one bottom: the triple (fee, worths, bottom)."""
    tops, bottom = on_one_bottom([(-1, fee)] + list(enumerate(table)))
    worths = [top for place, top in tops]
    return (worths[0], worths[1:], bottom)


def whole_shares(hall):
    """Come and the speeds as whole numbers: the triple (come, speeds, whole), whole being all of a turn."""
    speeds = [server[0] for server in hall[1]]
    tops, whole = on_one_bottom([(-1, hall[0])] + list(enumerate(speeds)))
    shares = [top for line, top in tops]
    return (shares[0], shares[1:], whole)


def price_by(hall, fee, worths, lines, line):
    """The price of a line, of LINES, by whole worths."""
    place, word = asked_at(hall, lines, line)
    return worths[place] + fee if word == "away" else worths[place]


def mean_behind(hall, fee, worths, lines, line):
    """The pair (sum, whole): the mean of the worths behind a turn whose asker is sent to a line, prices for worths."""
    come, speeds, whole = whole_shares(hall)
    total = come * price_by(hall, fee, worths, lines, line)
    for server, speed in enumerate(speeds):
        behind = settled(hall, done_at(lines, server)[0])
        total += speed * worths[place_of_lines(hall, behind)]
    rest = whole - come - sum(speeds)
    total += rest * worths[place_of_lines(hall, settled(hall, lines))]
    return (total, whole)


def has_lesser_price(hall, fee, worths, lines, line):
    """Whether some line has a lesser price than the told one."""
    told = price_by(hall, fee, worths, lines, line)
    return min([price_by(hall, fee, worths, lines, other) for other in range(len(lines))]) < told


def lets_best(hall, fee, less, thing):
    """True of a best paper that tells the best worths; any other plain thing is refused with NoBest."""
    if not is_best_paper(hall, thing):
        raise NoBest("shape", -1)
    places, table = thing
    fee, worths, bottom = whole_worths(fee, table)
    for number, lines in enumerate(all_lines(hall)):
        total, whole = mean_behind(hall, fee, worths, lines, places[number])
        # Both sides of the promise, times all bottoms.
        if (worths[number] - sum(lines) * bottom) * less[1] * whole != less[0] * total:
            raise NoBest("worth", number)
        if has_lesser_price(hall, fee, worths, lines, places[number]):
            raise NoBest("better", number)
    return True
