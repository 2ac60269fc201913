"""Runs and never papers as texts, written and read."""

from shorterline.errors import NoText
from shorterline.halls import is_lines
from shorterline.moves import is_move
from shorterline.plain import read_figure, read_number

VOID_RUN = "-"
BETWEEN = "|"


def figures_of(numbers):
    """The words of some numbers, a list."""
    return [str(number) for number in numbers]


def move_word(move):
    """The word that writes a move."""
    if move[0] == "come":
        return "c" + "".join(figures_of(move[1]))
    if move[0] == "done":
        return f"d{move[1]}"
    return "s"


def run_text(run):
    """The text that writes a run."""
    if len(run) == 0:
        return VOID_RUN
    return " ".join([move_word(move) for move in run])


def read_figures(signs):
    """The tuple of numbers that signs or words of one figure write, None for each that writes none."""
    return tuple([read_figure(sign) for sign in signs])


def read_move(hall, word):
    """The move of a hall that a word writes, or None."""
    if word == "s":
        return ("still",)
    figures = read_figures(word[1:])
    move = None
    if word.startswith("c"):
        move = ("come", figures)
    elif word.startswith("d") and len(figures) == 1:
        move = ("done", figures[0])
    return move if is_move(hall, move) else None


def read_run(hall, text):
    """The run of a hall that any text writes, or NoText of the first word amiss."""
    if text == VOID_RUN:
        return ()
    moves = []
    for number, word in enumerate(text.split(" ")):
        move = read_move(hall, word)
        if move is None:
            raise NoText(number)
        moves.append(move)
    return tuple(moves)


def triple_line(triple):
    """The line that writes a triple of a never paper."""
    x, y, lead = triple
    return " ".join(figures_of(x) + [BETWEEN] + figures_of(y) + [BETWEEN, str(lead)])


def paper_lines(paper):
    """The lines that write a never paper."""
    return [triple_line(triple) for triple in paper]


def read_triple(hall, line):
    """The triple (x, y, lead) of LINES of a hall and a lead that a line writes, or None."""
    many = len(hall[1])
    words = line.split(" ")
    if len(words) != 2 * many + 3 or words[many] != BETWEEN or words[2 * many + 1] != BETWEEN:
        return None
    x = read_figures(words[:many])
    y = read_figures(words[many + 1:2 * many + 1])
    lead = read_number(words[-1])
    if not is_lines(hall, x) or not is_lines(hall, y) or lead is None:
        return None
    return (x, y, lead)


def read_paper(hall, lines):
    """The tuple of triples that any list of texts writes, or NoText of the first row amiss."""
    triples = []
    for row, line in enumerate(lines):
        triple = read_triple(hall, line)
        if triple is None:
            raise NoText(row)
        triples.append(triple)
    return tuple(triples)
