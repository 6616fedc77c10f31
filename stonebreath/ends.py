"""Ends and races: what both hands can keep within some deeds, with a web for each."""

from stonebreath.common import other_hand
from stonebreath.counts import by_stones
from stonebreath.errors import TooMuch
from stonebreath.lays import steps

MOST_ROWS = 500


def worked(board, stand, hand, deeds):
    return End(board, deeds, ()).tried([stand], (), hand)


def raced(board, stand, hand, one, other, deeds):
    return End(board, deeds, (one, other)).tried([stand], (), hand)


class End:
    def __init__(self, board, most, racing):
        self.joined = board
        self.most = most
        self.racing = racing
        self.gone = 0

    # What is told is (worth, web of hand 1, web of hand 2), so told[hand] is the web of this hand.
    def tried(self, came, deeds, hand):
        self.count_row()
        if self.has_stopped(came[-1], deeds):
            return (self.worth(came[-1]), [], [])
        best = None
        deed = None
        answering = []
        for step in steps(self.joined, came, hand):
            told = self.tried(came + [step[1]], deeds + (step[0],), other_hand(hand))
            answering.extend(told[other_hand(hand)])
            if best is None or is_better(hand, told[0], best[0]):
                best = told
                deed = step[0]
        choosing = [(deeds, deed)] + best[hand]
        return (best[0], choosing, answering) if hand == 1 else (best[0], answering, choosing)

    # All rows of deeds are gone, none is left out for being hopeless: so this counts just what is bounded.
    def count_row(self):
        self.gone += 1
        if self.gone > MOST_ROWS:
            raise TooMuch(f"more than {MOST_ROWS} rows of deeds can be gone")

    def has_stopped(self, stand, deeds):
        if len(deeds) >= self.most or deeds[-2:] == (None, None):
            return True
        return any([stand[stone] == 0 for stone in self.racing])

    def worth(self, stand):
        if self.racing == ():
            held = by_stones(self.joined, stand)
            return held[0] - held[1]
        if stand[self.racing[0]] == 0:
            return -1
        return 1 if stand[self.racing[1]] == 0 else 0


def is_better(hand, worth, best):
    return worth > best if hand == 1 else worth < best
