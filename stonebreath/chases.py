"""Chases: whether a hunter catches a stone within some lays, with the winner's web."""

from stonebreath.common import other_hand
from stonebreath.errors import TooMuch
from stonebreath.lays import lays_on
from stonebreath.rows import breaths, patch

MOST_POINTS = 16


def chase(board, stand, hunter, point, most):
    if len(board) > MOST_POINTS:
        raise TooMuch(f"a chase is worked out on at most {MOST_POINTS} points")
    return Chase(board, hunter, point, most).hunt([stand], ())


# Both turns walk the points rising, and a pass behind them: so a web comes out sorted.
class Chase:
    def __init__(self, board, hunter, point, most):
        self.joined = board
        self.hunter = hunter
        self.runner = other_hand(hunter)
        self.stone = point
        self.most = most

    def hunt(self, came, deeds):
        if self.is_spent(deeds):
            return ("free", [])
        freeing = []
        for lay in self.hunter_lays(came):
            if lay[1][self.stone] == 0:
                return ("caught", [(deeds, lay[0])])
            told = self.run(came + [lay[1]], deeds + (lay[0],))
            if told[0] == "caught":
                return ("caught", [(deeds, lay[0])] + told[1])
            freeing.extend(told[1])
        return ("free", freeing)

    def run(self, came, deeds):
        if self.is_spent(deeds):
            return ("free", [])
        catching = []
        for step in self.runner_steps(came):
            told = self.hunt(came + [step[1]], deeds + (step[0],))
            if told[0] == "free":
                return ("free", [(deeds, step[0])] + told[1])
            catching.extend(told[1])
        return ("caught", catching)

    def is_spent(self, deeds):
        return (len(deeds) + 1) // 2 >= self.most

    # Where the row has three breaths or more, two at least are left behind any lay: so there is none.
    def hunter_lays(self, came):
        near = self.breaths_at(came[-1])
        lays = self.new_lays(came, self.hunter, near)
        return [lay for lay in lays if lay[1][self.stone] == 0 or len(self.breaths_at(lay[1])) <= 1]

    def runner_steps(self, came):
        lays = self.new_lays(came, self.runner, list(range(len(self.joined))))
        steps = [(lay[0], lay[1]) for lay in lays]
        steps.append((None, came[-1]))
        return steps

    def new_lays(self, came, hand, points):
        return [lay for lay in lays_on(self.joined, came[-1], hand, points) if lay[1] not in came]

    def breaths_at(self, stand):
        return breaths(self.joined, stand, patch(self.joined, stand, self.stone))
