"""A desk: halls by names, rows told to it, and the texts that it answers."""

from shorterline.bests import best_paper
from shorterline.errors import NoRow, NoText
from shorterline.fractions import is_less
from shorterline.halllines import fraction_text, hall_lines, read_fraction, read_hall
from shorterline.halls import MOST_BOTTOM, WHOLE_TURN
from shorterline.measures import away_by, how_many_by, means_of, stay_by, word_by
from shorterline.nevers import STANDING_WORDS, never_worse
from shorterline.paperlines import figures_of, read_run, run_text
from shorterline.plain import is_whole_within, read_number
from shorterline.ruletexts import read_rule
from shorterline.runs import counted, walked
from shorterline.sharing import shares_of

LETTERS = "abcdefghijklmnopqrstuvwxyz"
MOST_LETTERS = 8
MOST_TURNS = 12
MOST_FEE = (10000, 1)


def is_name(word):
    """Whether a word may be a hall's name."""
    for sign in word:
        if sign not in LETTERS:
            return False
    return 1 <= len(word) <= MOST_LETTERS


def hall_called(halls, name):
    """The hall of a name, or NoRow."""
    if name not in halls:
        raise NoRow("there is no hall of that name")
    return halls[name]


def rule_read(hall, words):
    """The rule of a hall that words write, or NoRow."""
    try:
        return read_rule(hall, " ".join(words))
    except NoText:
        raise NoRow("these words write no rule of the hall") from None


def turns_read(word):
    """How many turns a word writes, or NoRow."""
    turns = read_number(word)
    if not is_whole_within(turns, 0, MOST_TURNS):
        raise NoRow("these are no turns from 0 to 12")
    return turns


def standing_rule(word):
    """The rule of a word that may be held against another, or NoRow."""
    if word not in STANDING_WORDS:
        raise NoRow("this word is no rule that is held against another")
    return (word,)


def weighing_read(word):
    """The fraction from 0 on, its bottom not beyond the bound, that a word writes, or NoRow."""
    fraction = read_fraction(word)
    if fraction is None or fraction[0] < 0 or fraction[1] > MOST_BOTTOM:
        raise NoRow("this is no fraction that a fee or a less may be")
    return fraction


def fee_read(word):
    """The fee that a word writes, or NoRow."""
    fee = weighing_read(word)
    if is_less(MOST_FEE, fee):
        raise NoRow("the fee is too great")
    return fee


def less_read(word):
    """The less that a word writes, or NoRow."""
    less = weighing_read(word)
    if not is_less(less, WHOLE_TURN):
        raise NoRow("the less is not below 1")
    return less


def refuse_count(words, count):
    """NoRow where there are more or fewer words than told."""
    if len(words) != count:
        raise NoRow("the row has more or fewer words than told")


def hall_and_rule(halls, words):
    """The hall and the rule that a row's last words tell, or NoRow."""
    if len(words) < 2:
        raise NoRow("the row has fewer words than told")
    hall = hall_called(halls, words[0])
    return (hall, rule_read(hall, words[1:]))


def fractions_row(fractions):
    """Fractions as a text, parted by single blanks."""
    return " ".join([fraction_text(fraction) for fraction in fractions])


def share_row(stand, share):
    """A stand and its share as a text."""
    lines, turn = stand
    return " ".join(figures_of(lines) + [":", str(turn), ":", fraction_text(share)])


def answer_walk(halls, words, text):
    """The last stand's lines, and the counts, of a run."""
    hall, rule = hall_and_rule(halls, words)
    run = read_run(hall, text)
    lines, turn = walked(hall, rule, run)[-1]
    return " ".join(figures_of(lines)) + "\n" + " ".join(figures_of(counted(hall, rule, run)))


def answer_shares(halls, words):
    """The share paper, a line for each stand."""
    hall, rule = hall_and_rule(halls, words)
    return "\n".join([share_row(stand, share) for stand, share in shares_of(hall, rule)])


def answer_measures(halls, words):
    """How many, away, served and stay."""
    hall, rule = hall_and_rule(halls, words)
    # The shares are solved once for all of them.
    paper = shares_of(hall, rule)
    served = word_by(hall, rule, paper, "served")
    return fractions_row([how_many_by(paper), away_by(hall, rule, paper), served, stay_by(hall, rule, paper)])


def answer_means(halls, words):
    """The three means of so many turns."""
    if len(words) == 0:
        raise NoRow("the row has fewer words than told")
    turns = turns_read(words[0])
    hall, rule = hall_and_rule(halls, words[1:])
    return fractions_row(means_of(hall, rule, turns))


def answer_against(halls, words):
    """Whether the one rule is never worse than the other, else a run that shows it."""
    refuse_count(words, 3)
    hall = hall_called(halls, words[0])
    one = standing_rule(words[1])
    other = standing_rule(words[2])
    word, shown = never_worse(hall, one, other)
    return word if word == "never" else f"{word} {run_text(shown)}"


def answer_best(halls, words):
    """The places of a best paper."""
    refuse_count(words, 3)
    hall = hall_called(halls, words[0])
    fee = fee_read(words[1])
    less = less_read(words[2])
    return " ".join(figures_of(best_paper(hall, fee, less)[0]))


def answer_lines(halls, words):
    """The lines that write a hall."""
    refuse_count(words, 1)
    return "\n".join(hall_lines(hall_called(halls, words[0])))


ANSWERS = {
    "shares": answer_shares,
    "measures": answer_measures,
    "means": answer_means,
    "against": answer_against,
    "best": answer_best,
    "lines": answer_lines,
}


def answer_row(halls, words):
    """The answer to a row without a line feed, or NoRow."""
    if words[0] not in ANSWERS:
        raise NoRow("no row begins with this word")
    answer = ANSWERS[words[0]]
    return answer(halls, words[1:])


class Desk:
    """Halls by names, at first none."""

    def __init__(self):
        self.halls = {}

    def keep_hall(self, words, lines):
        """Keeps the hall that lines write under its name, or NoRow, NoText."""
        refuse_count(words, 2)
        if not is_name(words[1]):
            raise NoRow("this is no name of a hall")
        self.halls[words[1]] = read_hall(lines)
        return "ok"

    def say(self, row):
        """The answer to a row, or NoRow, or as the functions refuse that the row asks for."""
        head, *lines = row.split("\n")
        words = head.split(" ")
        if words[0] == "hall":
            return self.keep_hall(words, lines)
        # Only a run stands behind a line feed.
        if len(lines) != (1 if words[0] == "walk" else 0):
            raise NoRow("the row has more or fewer line feeds than told")
        if words[0] == "walk":
            return answer_walk(self.halls, words[1:], lines[0])
        return answer_row(self.halls, words)
