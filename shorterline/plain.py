"""Whole numbers, tuples and figures among plain things: what all other modules ask for."""

FIGURES = "0123456789"
MOST_FIGURES = 40


def is_whole(thing):
    """Whether a thing is a whole number."""
    # To Python a truth is an int, too.
    return isinstance(thing, int) and not isinstance(thing, bool)


def is_whole_within(thing, least, most):
    """Whether a thing is a whole number from least to most."""
    return is_whole(thing) and least <= thing <= most


def is_tuple_of(thing, many):
    """Whether a thing is a tuple of so many things."""
    return isinstance(thing, tuple) and len(thing) == many


def is_figures(word):
    """Whether a text is of figures alone, one at least."""
    if word == "":
        return False
    for sign in word:
        if sign not in FIGURES:
            return False
    return True


def read_figure(word):
    """The number that a word of one figure writes, or None."""
    if len(word) == 1 and is_figures(word):
        return int(word)
    return None


def read_number(word):
    """The number from 0 on that a word writes, without a 0 ahead, or None."""
    # Python itself refuses to read texts of thousands of figures, so the length is looked at first.
    if len(word) > MOST_FIGURES or not is_figures(word):
        return None
    if len(word) > 1 and word[0] == "0":
        return None
    return int(word)
