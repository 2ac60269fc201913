"""Whole numbers and tuples among plain things: what all other modules ask for."""


def is_whole(thing):
    """Whether a thing is a whole number."""
    # To Python a truth is an int, too.
    return isinstance(thing, int) and not isinstance(thing, bool)


def is_whole_within(thing, least, most):
    """Whether a thing is a whole number from least to most."""
    return is_whole(thing) and least <= thing <= most


def is_tuple_of(thing, many):
    """Whether a thing is a tuple of so many things."""
    return isinstance(thing, tuple) and len(thing) == many
