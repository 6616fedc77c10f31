"""Chases: whether a hunter catches a stone within some lays, with the winner's web."""

from stonebreath.common import other_hand
from stonebreath.errors import TooMuch
from stonebreath.lays import new_lays, steps
from stonebreath.rows import breaths, patch

MOST_POINTS = 16


def chase(board, stand, hunter, point, most):
    if len(board) > MOST_POINTS:
        raise TooMuch(f"a chase is worked out on at most {MOST_POINTS} points")
    return Chase(board, hunter, point, most).hunt([stand], ())


class Chase:
    def __init__(self, board, hunter, point, most):
        self.joined = board
        self.hunter = hunter
        self.runner = other_hand(hunter)
        self.stone = point
        self.most = most

    def hunt(self, came, deeds):
        if self.is_spent(deeds):
            return ("free", [])
        freeing = []
        for lay in self.hunter_lays(came):
            if lay[1][self.stone] == 0:
                return ("caught", [(deeds, lay[0])])
            told = self.run(came + [lay[1]], deeds + (lay[0],))
            if told[0] == "caught":
                return ("caught", [(deeds, lay[0])] + told[1])
            freeing.extend(told[1])
        return ("free", freeing)

    def run(self, came, deeds):
        if self.is_spent(deeds):
            return ("free", [])
        catching = []
        for step in steps(self.joined, came, self.runner):
            told = self.hunt(came + [step[1]], deeds + (step[0],))
            if told[0] == "free":
                return ("free", [(deeds, step[0])] + told[1])
            catching.extend(told[1])
        return ("caught", catching)

    def is_spent(self, deeds):
        return (len(deeds) + 1) // 2 >= self.most

    # Where the row has three breaths or more, two at least are left behind any lay: so there is none.
    def hunter_lays(self, came):
        lays = new_lays(self.joined, came, self.hunter, self.breaths_at(came[-1]))
        return [lay for lay in lays if lay[1][self.stone] == 0 or len(self.breaths_at(lay[1])) <= 1]

    def breaths_at(self, stand):
        return breaths(self.joined, stand, patch(self.joined, stand, self.stone))
