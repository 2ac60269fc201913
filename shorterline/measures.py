"""Measures by the shares, and the means of some turns."""

from shorterline.fractions import divided, fraction_of, on_one_bottom
from shorterline.moves import first_stand
from shorterline.sharing import shares_of
from shorterline.turnings import weights_behind


def how_many_by(paper):
    """How many are there by a share paper."""
    weights, bottom = on_one_bottom(paper)
    return fraction_of(sum([weight * sum(stand[0]) for stand, weight in weights]), bottom)


def word_by(hall, rule, paper, word):
    """The share, by a share paper, of turns whose move has this word."""
    weights, bottom = on_one_bottom(paper)
    stands, words, whole = weights_behind(hall, rule, dict(weights))
    return fraction_of(words.get(word, 0), bottom * whole)


def busy_by(paper, line):
    """The share, by a share paper, of turns at whose beginning somebody is in a line."""
    weights, bottom = on_one_bottom(paper)
    return fraction_of(sum([weight for stand, weight in weights if stand[0][line] > 0]), bottom)


def away_by(hall, rule, paper):
    """The share, by a share paper, of those who come that are turned away."""
    return divided(word_by(hall, rule, paper, "away"), hall[0])


def stay_by(hall, rule, paper):
    """How many are there by a share paper, divided by how many are taken in a turn."""
    # An asker is always taken at void lines, so there is no division by 0.
    return divided(how_many_by(paper), word_by(hall, rule, paper, "taken"))


def three_of(hall, rule):
    """The tuple (how many, away, stay) of a rule."""
    paper = shares_of(hall, rule)
    return (how_many_by(paper), away_by(hall, rule, paper), stay_by(hall, rule, paper))


def how_many(hall, rule):
    """How many are there, or TooMany."""
    return how_many_by(shares_of(hall, rule))


def share_away(hall, rule):
    """The share of those who come that are turned away, or TooMany."""
    return away_by(hall, rule, shares_of(hall, rule))


def served_each(hall, rule):
    """How many are served in a turn, or TooMany."""
    return word_by(hall, rule, shares_of(hall, rule), "served")


def stay_of(hall, rule):
    """How many are there, divided by how many are taken in a turn, or TooMany."""
    return stay_by(hall, rule, shares_of(hall, rule))


def busy_of(hall, rule):
    """For each server the share of turns at whose beginning somebody is in its line, or TooMany."""
    paper = shares_of(hall, rule)
    return tuple([busy_by(paper, line) for line in range(len(hall[1]))])


def held_against(hall, one, other):
    """The tuples (how many, away, stay) of two rules, or TooMany."""
    return (three_of(hall, one), three_of(hall, other))


def means_of(hall, rule, turns):
    """The means of so many turns: (how many are there behind them, served so far, turned away so far)."""
    weights = {first_stand(hall): 1}
    bottom = 1
    served = 0
    away = 0
    for turn in range(turns):
        weights, words, whole = weights_behind(hall, rule, weights)
        served = served * whole + words.get("served", 0)
        away = away * whole + words.get("away", 0)
        bottom = bottom * whole
    many = sum([weight * sum(stand[0]) for stand, weight in weights.items()])
    return (fraction_of(many, bottom), fraction_of(served, bottom), fraction_of(away, bottom))
