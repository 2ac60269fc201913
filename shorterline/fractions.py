"""FRACTIONs: pairs (top, bottom) without a common divisor, the bottom 1 or more."""

from shorterline.errors import NoFraction
from shorterline.plain import is_tuple_of, is_whole


def greatest_divisor(one, other):
    """The greatest common divisor of two numbers from 0 on, not both 0."""
    while other != 0:
        one, other = other, one % other
    return one


def is_fraction(thing):
    """Whether any plain thing is a FRACTION."""
    if not is_tuple_of(thing, 2):
        return False
    top, bottom = thing
    if not is_whole(top) or not is_whole(bottom) or bottom < 1:
        return False
    return greatest_divisor(abs(top), bottom) == 1


def fraction_of(top, bottom):
    """The FRACTION top / bottom of two whole numbers, or NoFraction of a bottom 0."""
    if bottom == 0:
        raise NoFraction("no fraction has a bottom of 0")
    if bottom < 0:
        top, bottom = -top, -bottom
    divisor = greatest_divisor(abs(top), bottom)
    return (top // divisor, bottom // divisor)


def added(one, other):
    """The sum of two FRACTIONs."""
    return fraction_of(one[0] * other[1] + other[0] * one[1], one[1] * other[1])


def taken_off(one, other):
    """What is left of the one when the other is taken off it."""
    return fraction_of(one[0] * other[1] - other[0] * one[1], one[1] * other[1])


def multiplied(one, other):
    """The product of two FRACTIONs."""
    return fraction_of(one[0] * other[0], one[1] * other[1])


def divided(one, other):
    """The quotient of two FRACTIONs, or NoFraction where the other is 0."""
    # Where the other is 0 the bottom is, too, which is refused there.
    return fraction_of(one[0] * other[1], one[1] * other[0])


def is_less(one, other):
    """Whether the one FRACTION is less than the other."""
    return one[0] * other[1] < other[0] * one[1]


def on_one_bottom(pairs):
    """Pairs (thing, FRACTION) as a pair: the list of pairs (thing, top), and the one bottom of all these tops."""
    bottom = 1
    for thing, fraction in pairs:
        bottom = bottom * (fraction[1] // greatest_divisor(bottom, fraction[1]))
    return ([(thing, fraction[0] * (bottom // fraction[1])) for thing, fraction in pairs], bottom)
