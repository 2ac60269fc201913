"""A floor: moves made at a hall one by one, and taken back."""

from shorterline.errors import NoBack
from shorterline.runs import first_scene, scene_behind


class Floor:
    """A hall and a rule, with the moves made so far."""

    def __init__(self, hall, rule):
        self.hall = hall
        self.rule = rule
        self.moves = []
        # One scene more than moves: the last one is what is there now.
        self.scenes = [first_scene(hall)]

    def go(self, move):
        """Makes a move and tells its word."""
        scene, word = scene_behind(self.hall, self.rule, self.scenes[-1], move)
        self.moves.append(move)
        self.scenes.append(scene)
        return word

    def back(self):
        """Takes the last move back, or NoBack where there is none."""
        if len(self.moves) == 0:
            raise NoBack("there is no move to take back")
        self.moves.pop()
        self.scenes.pop()

    def stand_now(self):
        """The stand behind all moves so far."""
        return self.scenes[-1][0]

    def counts_now(self):
        """The counts (came, taken, away, served) of all moves so far."""
        return self.scenes[-1][1]

    def run_so_far(self):
        """The run of all moves so far."""
        return tuple(self.moves)

    def askers(self):
        """The numbers of the askers in each line, who is served first ahead."""
        return self.scenes[-1][2]
