"""Counts: what each hand has, by stones and by land."""

from stonebreath.common import other_hand
from stonebreath.rows import lands, sides


def by_stones(board, stand):
    held = [stand.count(hand) + land_of(board, stand, hand) for hand in (1, 2)]
    return tuple(held)


def by_land(game):
    held = [land_of(game.board(), game.stand(), hand) + game.lost(other_hand(hand)) for hand in (1, 2)]
    return tuple(held)


def land_of(board, stand, hand):
    return sum([len(land) for land in lands(board, stand) if sides(board, stand, land) == [hand]])
