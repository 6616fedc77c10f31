"""Other names: points named anew by an order, and hands exchanged."""

from stonebreath.common import other_hand


def named_board(board, order):
    joined = [()] * len(board)
    for point in range(len(board)):
        joined[order[point]] = tuple(named_points(board[point], order))
    return tuple(joined)


def named_stand(stand, order):
    held = [0] * len(stand)
    for point in range(len(stand)):
        held[order[point]] = stand[point]
    return tuple(held)


def named_points(some, order):
    return sorted([order[point] for point in some])


def exchanged(stand):
    return tuple([0 if what == 0 else other_hand(what) for what in stand])
