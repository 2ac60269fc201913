"""HALLs: how often askers come, which servers there are, whether askers are moved."""

from shorterline.errors import NoHall
from shorterline.fractions import added, is_fraction, is_less
from shorterline.plain import is_tuple_of, is_whole_within

MOST_SERVERS = 4
MOST_ROOM = 6
MOST_BOTTOM = 10000
WHOLE_TURN = (1, 1)


def is_share(thing):
    """Whether any plain thing may be a hall's come or a server's speed."""
    return is_fraction(thing) and thing[0] > 0 and thing[1] <= MOST_BOTTOM


def is_server(thing):
    """Whether any plain thing is a pair (speed, room)."""
    if not is_tuple_of(thing, 2):
        return False
    return is_share(thing[0]) and is_whole_within(thing[1], 1, MOST_ROOM)


def first_wrong_server(servers):
    """The number of the first one that is no server, or -1."""
    for number, server in enumerate(servers):
        if not is_server(server):
            return number
    return -1


def is_beyond_turn(come, servers):
    """Whether come and all speeds are more than 1 together."""
    share = come
    for server in servers:
        share = added(share, server[0])
    return is_less(WHOLE_TURN, share)


def hall_fault(thing):
    """What is first amiss with a thing as a HALL, a pair (word, number), or None."""
    if not is_tuple_of(thing, 3):
        return ("hall", -1)
    come, servers, moved = thing
    if not is_share(come):
        return ("come", -1)
    if not isinstance(servers, tuple) or not 1 <= len(servers) <= MOST_SERVERS:
        return ("servers", -1)
    wrong = first_wrong_server(servers)
    if wrong >= 0:
        return ("server", wrong)
    if not isinstance(moved, bool):
        return ("moved", -1)
    if is_beyond_turn(come, servers):
        return ("share", -1)
    return None


def is_hall(thing):
    """Whether any plain thing is a HALL."""
    return hall_fault(thing) is None


def right_hall(thing):
    """True of a HALL; any other plain thing is refused with NoHall."""
    fault = hall_fault(thing)
    if fault is not None:
        raise NoHall(fault[0], fault[1])
    return True


def is_alike(hall):
    """Whether all servers of a hall are alike."""
    servers = hall[1]
    for server in servers:
        if server != servers[0]:
            return False
    return True


def all_lines(hall):
    """All LINES of a hall, rising."""
    found = [()]
    for server in hall[1]:
        found = [ahead + (many,) for ahead in found for many in range(server[1] + 1)]
    return found


def hall_turned(hall, order):
    """The hall with its servers in the order of an ORDER."""
    come, servers, moved = hall
    return (come, tuple([servers[number] for number in order]), moved)


def is_line(hall, thing):
    """Whether any plain thing is a line's number."""
    return is_whole_within(thing, 0, len(hall[1]) - 1)


def is_lines(hall, thing):
    """Whether any plain thing is LINES of a hall."""
    servers = hall[1]
    if not is_tuple_of(thing, len(servers)):
        return False
    for many, server in zip(thing, servers):
        if not is_whole_within(many, 0, server[1]):
            return False
    return True


def count_of_lines(hall):
    """How many LINES a hall has."""
    count = 1
    for server in hall[1]:
        count = count * (server[1] + 1)
    return count


def place_of_lines(hall, lines):
    """The place of LINES, from 0, among all of the hall, rising."""
    place = 0
    for many, server in zip(lines, hall[1]):
        place = place * (server[1] + 1) + many
    return place
