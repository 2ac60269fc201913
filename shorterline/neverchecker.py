"""The small checker of never papers: it solves nothing and searches nothing."""

from shorterline.errors import NoNever
from shorterline.halls import is_alike, is_lines
from shorterline.moves import all_moves, first_stand, moved_on
from shorterline.plain import is_tuple_of, is_whole


def kept_lines(hall, lines):
    """LINES in falling order in an alike hall, else as they are."""
    if is_alike(hall):
        return tuple(sorted(lines, reverse=True))
    return lines


def is_kept(hall, thing):
    """Whether any plain thing is KEPT lines of a hall."""
    return is_lines(hall, thing) and kept_lines(hall, thing) == thing


def is_triple(hall, thing):
    """Whether any plain thing is a triple (x, y, lead) of a never paper."""
    if not is_tuple_of(thing, 3) or not is_kept(hall, thing[0]) or not is_kept(hall, thing[1]):
        return False
    return is_whole(thing[2]) and thing[2] >= 0


def is_never_paper(hall, thing):
    """Whether any plain thing is a NEVER PAPER by kind."""
    if not isinstance(thing, tuple):
        return False
    for triple in thing:
        if not is_triple(hall, triple):
            return False
    return True


def refuse_turns(one, other):
    """NoNever where one of both rules is by turns."""
    if one[0] == "turns" or other[0] == "turns":
        raise NoNever("rule", -1)


def first_triple(hall):
    """The triple ahead of all moves: void lines twice and 0."""
    void = first_stand(hall)[0]
    return (void, void, 0)


def kept_step(hall, rule, lines, move):
    """The pair that a move makes of kept lines by a rule: the kept lines behind it, and whether one is turned away."""
    stand, word = moved_on(hall, rule, (lines, 0), move)
    return (kept_lines(hall, stand[0]), word == "away")


def triple_behind(one_step, other_step, lead):
    """The triple behind a move, of the steps that it makes by either rule."""
    x, one_away = one_step
    y, other_away = other_step
    if other_away and not one_away:
        lead += 1
    if one_away and not other_away:
        lead -= 1
    return (x, y, lead)


def is_worse(triple):
    """Whether there are more in x than in y and lead together."""
    x, y, lead = triple
    return sum(x) > sum(y) + lead


def least_leads(paper):
    """The least lead that a paper has for each of its pairs (x, y), a dict."""
    leads = {}
    for x, y, lead in paper:
        leads[(x, y)] = min(lead, leads.get((x, y), lead))
    return leads


def has_all_behind(hall, one, other, leads, triple):
    """Whether for each move the paper has what is behind it, with as small a lead."""
    x, y, lead = triple
    for move in all_moves(hall):
        behind = triple_behind(kept_step(hall, one, x, move), kept_step(hall, other, y, move), lead)
        pair = (behind[0], behind[1])
        if pair not in leads or leads[pair] > behind[2]:
            return False
    return True


def lets_never(hall, one, other, thing):
    """True of a paper that the one rule is never worse than the other; any other plain thing is refused: NoNever."""
    refuse_turns(one, other)
    if not is_never_paper(hall, thing):
        raise NoNever("shape", -1)
    if first_triple(hall) not in thing:
        raise NoNever("begin", -1)
    leads = least_leads(thing)
    for number, triple in enumerate(thing):
        if is_worse(triple):
            raise NoNever("less", number)
        if not has_all_behind(hall, one, other, leads, triple):
            raise NoNever("move", number)
    return True
