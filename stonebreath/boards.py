"""Boards: points, and the lines that join them."""

from stonebreath.common import is_whole, patches
from stonebreath.errors import NoBoard

MOST_POINTS = 36
MOST_SIZE = 6


def board_of(many, lines):
    if not is_whole_within(many, 1, MOST_POINTS):
        raise NoBoard(f"a board has 1 to {MOST_POINTS} points")
    if not isinstance(lines, list):
        raise NoBoard("the lines are a list")
    joined = [[] for point in range(many)]
    for line in lines:
        if not is_line(many, line):
            raise NoBoard("a line is a tuple of two unlike points of the board")
        one = line[0]
        other = line[1]
        if other in joined[one]:
            raise NoBoard(f"the line from {one} to {other} stands there twice")
        joined[one].append(other)
        joined[other].append(one)
    return tuple([tuple(sorted(beside)) for beside in joined])


def is_whole_within(thing, least, most):
    return is_whole(thing) and least <= thing <= most


def is_line(many, thing):
    if not isinstance(thing, tuple) or len(thing) != 2:
        return False
    if not all([is_whole_within(point, 0, many - 1) for point in thing]):
        return False
    return thing[0] != thing[1]


def grid(wide, high):
    for size in (wide, high):
        if not is_whole_within(size, 1, MOST_SIZE):
            raise NoBoard(f"a grid is 1 to {MOST_SIZE} wide and 1 to {MOST_SIZE} high")
    lines = []
    for point in range(wide * high):
        if point % wide < wide - 1:
            lines.append((point, point + 1))
        if point // wide < high - 1:
            lines.append((point, point + wide))
    return board_of(wide * high, lines)


def parts(board):
    # With the same mark on all points, a patch ends only where the lines end.
    return patches(board, [0] * len(board))
