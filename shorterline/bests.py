"""The best paper of a hall, a fee and a less."""

from shorterline.fractions import is_less
from shorterline.halls import all_lines
from shorterline.moves import all_orders
from shorterline.rules import first_shortest
from shorterline.worths import look_ahead, price_of, worths_of


def table_of(hall, fee, less, places):
    """The worths of the told rule of these places as a table, or TooMany."""
    return tuple([worth for stand, worth in worths_of(hall, ("told", places), fee, less)])


def better_line(hall, fee, table, lines, line):
    """The line of the least price where it is less than that of the told one, else the told one."""
    # A told line of as low a price stays, else two rules of alike worths might follow one another for ever.
    best = look_ahead(hall, fee, table, lines)
    if is_less(price_of(hall, fee, table, lines, best), price_of(hall, fee, table, lines, line)):
        return best
    return line


def better_places(hall, fee, table, places):
    """The places with each told line that has a lesser price beside it replaced."""
    return tuple([better_line(hall, fee, table, lines, line) for lines, line in zip(all_lines(hall), places)])


def best_paper(hall, fee, less):
    """Any best paper that is let by, or TooMany of more than sixty LINES."""
    order = all_orders(hall)[0]
    places = tuple([first_shortest(lines, order) for lines in all_lines(hall)])
    table = table_of(hall, fee, less, places)
    better = better_places(hall, fee, table, places)
    # Each replaced line lowers some worth and raises none, so no places come twice.
    while better != places:
        places = better
        table = table_of(hall, fee, less, places)
        better = better_places(hall, fee, table, places)
    return (places, table)
