"""Stands: the rows of stones and the lands of free points, and what lies beside them."""

from stonebreath.common import is_whole, patch_of, patches


def is_stand(board, thing):
    if not isinstance(thing, tuple) or len(thing) != len(board):
        return False
    return all([is_whole(what) and 0 <= what <= 2 for what in thing])


def patch(board, stand, point):
    return patch_of(board, stand, point)


def rows(board, stand):
    return [points for points in patches(board, stand) if stand[points[0]] != 0]


def lands(board, stand):
    return [points for points in patches(board, stand) if stand[points[0]] == 0]


def breaths(board, stand, row):
    return [point for point in points_beside(board, row) if stand[point] == 0]


def sides(board, stand, land):
    held = [stand[point] for point in points_beside(board, land)]
    return [hand for hand in (1, 2) if hand in held]


def points_beside(board, points):
    found = {}
    for point in points:
        for beside in board[point]:
            found[beside] = True
    return sorted(found)


def is_sound(board, stand):
    return all([len(breaths(board, stand, row)) > 0 for row in rows(board, stand)])
