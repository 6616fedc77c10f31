"""Games: two hands do deeds by turns, until they pass or have done enough."""

from stonebreath.common import other_hand
from stonebreath.errors import Again, NoBack, NoStand, Over
from stonebreath.lays import laid, lays_on
from stonebreath.rows import is_sound, is_stand

MOST_DEEDS = 300


class Game:
    def __init__(self, board, rule, stand, hand):
        if not is_stand(board, stand):
            raise NoStand("the begin is no stand of the board")
        if not is_sound(board, stand):
            raise NoStand("at the begin a row has no breath")
        self.joined = board
        self.barring = rule
        self.first = hand
        self.past = [stand]
        self.done = []
        self.takings = []

    def deed(self, what):
        if self.ended() is not None:
            raise Over("the game has ended")
        behind = self.stand()
        many = 0
        if what is not None:
            told = laid(self.joined, behind, self.hand(), what)
            behind = told[0]
            many = len(told[1])
            number = self.came_at(behind)
            if number is not None:
                raise Again(number)
        self.past.append(behind)
        self.done.append(what)
        self.takings.append(many)

    def came_at(self, behind):
        for moment in range(len(self.past)):
            if self.past[moment] == behind and self.is_barring(moment):
                return moment
        return None

    def is_barring(self, moment):
        return self.barring == "stones" or self.hand_at(moment) == other_hand(self.hand())

    def back(self):
        if not self.done:
            raise NoBack("there is no deed to take back")
        self.past.pop()
        self.done.pop()
        self.takings.pop()

    def stand(self):
        return self.past[-1]

    def hand(self):
        return self.hand_at(len(self.done))

    def hand_at(self, moment):
        return self.first if moment % 2 == 0 else other_hand(self.first)

    def stands(self):
        return list(self.past)

    def deeds(self):
        return list(self.done)

    def open_deeds(self):
        if self.ended() is not None:
            return []
        lays = lays_on(self.joined, self.stand(), self.hand(), list(range(len(self.joined))))
        found = [lay[0] for lay in lays if self.came_at(lay[1]) is None]
        found.append(None)
        return found

    def lost(self, hand):
        return sum([self.takings[moment] for moment in range(len(self.done)) if self.hand_at(moment) != hand])

    def ended(self):
        if self.done[-2:] == [None, None]:
            return "passed"
        if len(self.done) >= MOST_DEEDS:
            return "long"
        return None

    def board(self):
        return self.joined

    def rule(self):
        return self.barring

    def begin(self):
        return (self.past[0], self.first)
