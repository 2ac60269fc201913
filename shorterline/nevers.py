"""Two rules held against one another along every run."""

from shorterline.errors import NoAlike
from shorterline.halls import is_alike
from shorterline.moves import all_moves
from shorterline.neverchecker import first_triple, is_worse, kept_step, refuse_turns, triple_behind

STANDING_WORDS = ("random", "two", "least", "quick")


class Search:
    """The pairs of kept lines that runs lead to, shorter runs first, each with the least lead met so far.

    A greater lead is never worse than a lesser one behind the same moves, so of each pair the least one is enough.
    """

    def __init__(self, hall, one, other):
        self.hall = hall
        self.rules = (one, other)
        self.moves = all_moves(hall)
        self.steps = {}
        self.leads = {}
        self.triples = []
        # Of each triple the number of the one ahead of it, and the move between them.
        self.ways = []
        self.met(first_triple(hall), -1, None)

    def steps_of(self, side, lines):
        """What each move makes of kept lines by one of both rules."""
        if (side, lines) not in self.steps:
            rule = self.rules[side]
            self.steps[(side, lines)] = [kept_step(self.hall, rule, lines, move) for move in self.moves]
        return self.steps[(side, lines)]

    def triples_behind(self, triple):
        """What each move makes of a triple."""
        x, y, lead = triple
        one_steps = self.steps_of(0, x)
        other_steps = self.steps_of(1, y)
        return [triple_behind(one_step, other_step, lead) for one_step, other_step in zip(one_steps, other_steps)]

    def met(self, triple, ahead, move):
        """Keeps a triple where its lead is less than all met so far of its pair."""
        x, y, lead = triple
        if (x, y) not in self.leads or lead < self.leads[(x, y)]:
            self.leads[(x, y)] = lead
            self.triples.append(triple)
            self.ways.append((ahead, move))

    def run_to(self, at):
        """The run that leads to a triple."""
        moves = []
        while self.ways[at][0] >= 0:
            at, move = self.ways[at]
            moves.append(move)
        return tuple(moves[::-1])

    def worse_run(self):
        """A shortest run behind which the one rule served fewer or turned away more, or None."""
        at = 0
        while at < len(self.triples):
            behind = self.triples_behind(self.triples[at])
            for move, triple in zip(self.moves, behind):
                if triple[2] < 0 or is_worse(triple):
                    return self.run_to(at) + (move,)
                self.met(triple, at, move)
            at += 1
        return None

    def paper(self):
        """The never paper of all pairs met, where no run is worse."""
        return tuple([(x, y, lead) for (x, y), lead in sorted(self.leads.items())])


def never_worse(hall, one, other):
    """The pair ("never", paper) or ("worse", run) of two rules, or NoNever where one of both is by turns."""
    refuse_turns(one, other)
    search = Search(hall, one, other)
    run = search.worse_run()
    if run is not None:
        return ("worse", run)
    return ("never", search.paper())


def standings(hall):
    """Each two unlike ones of the words held against one another: a tuple of triples (one, other, word)."""
    pairs = [(one, other) for one in STANDING_WORDS for other in STANDING_WORDS if one != other]
    return tuple([(one, other, never_worse(hall, (one,), (other,))[0]) for one, other in pairs])


def between(hall):
    """The never papers of two against random and of least against two, or NoAlike."""
    if not is_alike(hall) or hall[2]:
        raise NoAlike("the hall's servers are not alike, or its askers are moved")
    return (never_worse(hall, ("two",), ("random",))[1], never_worse(hall, ("least",), ("two",))[1])
