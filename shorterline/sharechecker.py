"""The small checker of share papers: it solves nothing and searches nothing."""

from shorterline.errors import NoShares
from shorterline.fractions import is_fraction, on_one_bottom
from shorterline.moves import is_stand
from shorterline.plain import is_tuple_of
from shorterline.turnings import weights_behind


def is_stand_share(hall, rule, thing):
    """Whether any plain thing is a pair of a stand by the rule and a share above 0."""
    if not is_tuple_of(thing, 2) or not is_stand(hall, rule, thing[0]):
        return False
    return is_fraction(thing[1]) and thing[1][0] > 0


def is_share_paper(hall, rule, thing):
    """Whether any plain thing is a SHARE PAPER with a pair at least."""
    if not isinstance(thing, tuple) or len(thing) == 0:
        return False
    for pair in thing:
        if not is_stand_share(hall, rule, pair):
            return False
    for one, other in zip(thing, thing[1:]):
        if not one[0] < other[0]:
            return False
    return True


def first_turned(hall, rule, weights):
    """The number of the first stand whose weight a turn doesn't leave as it is, or -1."""
    # A stand that isn't told needs no look: what it got would be missing at one that is.
    stands, words, whole = weights_behind(hall, rule, dict(weights))
    for number, (stand, weight) in enumerate(weights):
        if stands.get(stand, 0) != weight * whole:
            return number
    return -1


def lets_shares(hall, rule, thing):
    """True of a share paper that tells the shares; any other plain thing is refused with NoShares."""
    if not is_share_paper(hall, rule, thing):
        raise NoShares("shape", -1)
    weights, bottom = on_one_bottom(thing)
    if sum([weight for stand, weight in weights]) != bottom:
        raise NoShares("sum", -1)
    number = first_turned(hall, rule, weights)
    if number >= 0:
        raise NoShares("turn", number)
    return True
