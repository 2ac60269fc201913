"""HALLs and FRACTIONs as texts, written and read."""

from shorterline.errors import NoText
from shorterline.fractions import added, is_fraction, is_less
from shorterline.halls import MOST_SERVERS, WHOLE_TURN, is_server, is_share
from shorterline.plain import read_figure, read_number


def fraction_text(fraction):
    """A FRACTION as "TOP/BOTTOM"."""
    return f"{fraction[0]}/{fraction[1]}"


def read_top(word):
    """The whole number that a word writes, "-" ahead of one below 0, or None."""
    if not word.startswith("-"):
        return read_number(word)
    number = read_number(word[1:])
    if number is None or number == 0:
        return None
    return -number


def read_fraction(word):
    """The FRACTION that a word writes, or None."""
    parts = word.split("/")
    if len(parts) != 2:
        return None
    fraction = (read_top(parts[0]), read_number(parts[1]))
    if not is_fraction(fraction):
        return None
    return fraction


def hall_lines(hall):
    """The lines that write a hall."""
    come, servers, moved = hall
    word = "move" if moved else "stay"
    lines = [f"hall {fraction_text(come)} {word}"]
    for speed, room in servers:
        lines.append(f"server {fraction_text(speed)} {room}")
    return lines


def read_head(line):
    """The pair (come, moved) that a hall's first line writes, or None."""
    words = line.split(" ")
    if len(words) != 3 or words[0] != "hall" or words[2] not in ("stay", "move"):
        return None
    come = read_fraction(words[1])
    if not is_share(come) or is_less(WHOLE_TURN, come):
        return None
    return (come, words[2] == "move")


def read_server(line):
    """The pair (speed, room) that a server's line writes, or None."""
    words = line.split(" ")
    if len(words) != 3 or words[0] != "server":
        return None
    server = (read_fraction(words[1]), read_figure(words[2]))
    if not is_server(server):
        return None
    return server


def read_servers(come, lines):
    """The servers that the lines behind a hall's first one write, or NoText."""
    servers = []
    share = come
    for row in range(1, len(lines)):
        server = read_server(lines[row])
        if server is None or len(servers) == MOST_SERVERS:
            raise NoText(row)
        share = added(share, server[0])
        if is_less(WHOLE_TURN, share):
            raise NoText(row)
        servers.append(server)
    if len(servers) == 0:
        raise NoText(len(lines))
    return tuple(servers)


def read_hall(lines):
    """The hall that any list of texts writes, or NoText of the first row amiss."""
    if len(lines) == 0:
        raise NoText(0)
    head = read_head(lines[0])
    if head is None:
        raise NoText(0)
    come, moved = head
    return (come, read_servers(come, lines), moved)
