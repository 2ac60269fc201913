"""STANDs, ORDERs, MOVEs and RUNs, and what a move makes of a stand."""

from shorterline.halls import is_line, is_lines
from shorterline.plain import is_tuple_of, is_whole
from shorterline.rules import sent_to


def first_stand(hall):
    """The stand of void lines and turn 0."""
    return ((0,) * len(hall[1]), 0)


def is_turn(hall, rule, thing):
    """Whether any plain thing is the turn of a stand by a rule."""
    if rule[0] == "turns":
        return is_line(hall, thing)
    return is_whole(thing) and thing == 0


def is_stand(hall, rule, thing):
    """Whether any plain thing is a STAND by a rule."""
    if not is_tuple_of(thing, 2):
        return False
    return is_lines(hall, thing[0]) and is_turn(hall, rule, thing[1])


def is_order(hall, thing):
    """Whether any plain thing is an ORDER of a hall."""
    if not is_tuple_of(thing, len(hall[1])):
        return False
    for line in thing:
        if not is_line(hall, line) or thing.count(line) != 1:
            return False
    return True


def is_move(hall, thing):
    """Whether any plain thing is a MOVE of a hall."""
    if is_tuple_of(thing, 1):
        return thing[0] == "still"
    if not is_tuple_of(thing, 2):
        return False
    if thing[0] == "come":
        return is_order(hall, thing[1])
    return thing[0] == "done" and is_line(hall, thing[1])


def is_run(hall, thing):
    """Whether any plain thing is a RUN of a hall."""
    if not isinstance(thing, tuple):
        return False
    for move in thing:
        if not is_move(hall, move):
            return False
    return True


def all_orders(hall):
    """All ORDERs of a hall, rising."""
    many = len(hall[1])
    orders = [()]
    for place in range(many):
        orders = [ahead + (line,) for ahead in orders for line in range(many) if line not in ahead]
    return orders


def all_moves(hall):
    """All MOVEs of a hall, of share 0 too."""
    dones = [("done", line) for line in range(len(hall[1]))]
    return [("come", order) for order in all_orders(hall)] + dones + [("still",)]


def with_more(lines, line, more):
    """The lines with so many more at one of them."""
    return lines[:line] + (lines[line] + more,) + lines[line + 1:]


def come_to(hall, lines, line):
    """The pair (lines, word) where an asker is sent to a line."""
    if lines[line] == hall[1][line][1]:
        return (lines, "away")
    return (with_more(lines, line, 1), "taken")


def done_at(lines, line):
    """The pair (lines, word) where a server is done."""
    if lines[line] == 0:
        return (lines, "none")
    return (with_more(lines, line, -1), "served")


def next_shift(hall, lines):
    """The pair of lines from and to which an asker is to be moved, or None."""
    if not hall[2] or 0 not in lines or max(lines) < 2:
        return None
    return (lines.index(max(lines)), lines.index(0))


def settled(hall, lines):
    """The lines where all are moved that are to be, where the hall moves askers."""
    shift = next_shift(hall, lines)
    while shift is not None:
        lines = with_more(with_more(lines, shift[0], -1), shift[1], 1)
        shift = next_shift(hall, lines)
    return lines


def turn_behind(hall, rule, turn):
    """The stand's turn behind an asker's coming, taken or away."""
    if rule[0] == "turns":
        return (turn + 1) % len(hall[1])
    return turn


def line_of(hall, rule, stand, move):
    """The line to which the asker of a move is sent or whose server is done; of still None."""
    if move[0] == "come":
        return sent_to(hall, rule, stand, move[1])
    if move[0] == "done":
        return move[1]
    return None


def moved_on(hall, rule, stand, move):
    """The pair (stand, word) that a move makes of a stand by a rule."""
    lines, turn = stand
    word = "none"
    line = line_of(hall, rule, stand, move)
    if move[0] == "come":
        lines, word = come_to(hall, lines, line)
        turn = turn_behind(hall, rule, turn)
    elif move[0] == "done":
        lines, word = done_at(lines, line)
    return ((settled(hall, lines), turn), word)
