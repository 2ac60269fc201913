"""What a turn leaves of stands, and which stands come."""

from shorterline.errors import TooMany
from shorterline.fractions import divided, fraction_of, on_one_bottom, taken_off
from shorterline.halls import WHOLE_TURN
from shorterline.moves import all_orders, first_stand, moved_on

MOST_STANDS = 60


def move_shares(hall):
    """All MOVEs of share above 0, each in a pair (move, share)."""
    come, servers, moved = hall
    orders = all_orders(hall)
    each = divided(come, (len(orders), 1))
    shares = [(("come", order), each) for order in orders]
    rest = taken_off(WHOLE_TURN, come)
    for line, server in enumerate(servers):
        shares.append((("done", line), server[0]))
        rest = taken_off(rest, server[0])
    if rest[0] > 0:
        shares.append((("still",), rest))
    return shares


def weights_behind(hall, rule, weights):
    """What a turn makes of stands with whole weights: the triple (stands, words, whole).

    Both are dicts of weights, whole times those handed in together: of the stands behind the turn, and of the
    words of its moves.
    """
    # Whole weights stay exact without a divisor being looked for at each sum.
    moves, whole = on_one_bottom(move_shares(hall))
    stands = {}
    words = {}
    for stand, weight in weights.items():
        for move, share in moves:
            behind, word = moved_on(hall, rule, stand, move)
            stands[behind] = stands.get(behind, 0) + weight * share
            words[word] = words.get(word, 0) + weight * share
    return (stands, words, whole)


def told_shares(weights, whole):
    """A dict of weights by stands as a tuple of pairs (stand, share), rising."""
    return tuple([(stand, fraction_of(weight, whole)) for stand, weight in sorted(weights.items())])


def left_by_turn(hall, rule, stand):
    """What a turn leaves of a stand: a tuple of pairs (stand, share), rising."""
    stands, words, whole = weights_behind(hall, rule, {stand: 1})
    return told_shares(stands, whole)


def stands_coming(hall, rule):
    """All stands that come from the first one, rising, or TooMany of more than sixty."""
    found = [first_stand(hall)]
    known = {found[0]: True}
    at = 0
    while at < len(found):
        behind = left_by_turn(hall, rule, found[at])
        for stand, share in behind:
            if stand not in known:
                known[stand] = True
                found.append(stand)
        if len(found) > MOST_STANDS:
            raise TooMany("stands")
        at += 1
    return sorted(found)


def left_by_turns(hall, rule, turns):
    """What so many turns leave of the first stand: a tuple of pairs (stand, share), rising."""
    weights = {first_stand(hall): 1}
    bottom = 1
    for turn in range(turns):
        weights, words, whole = weights_behind(hall, rule, weights)
        bottom = bottom * whole
    return told_shares(weights, bottom)
