"""Lays: a stone is laid, and what has no breath then is taken."""

from stonebreath.common import other_hand
from stonebreath.errors import NoBreath, NoLay
from stonebreath.rows import breaths, patch, rows


def laid(board, stand, hand, point):
    if stand[point] != 0:
        raise NoLay(f"point {point} is not free")
    full = filled(stand, [point], hand)
    taken = breathless(board, full, other_hand(hand))
    behind = filled(full, taken, 0)
    if not breaths(board, behind, patch(board, behind, point)):
        raise NoBreath(f"a stone on point {point} has no breath")
    return (behind, taken)


def lays_on(board, stand, hand, points):
    found = []
    for point in points:
        try:
            told = laid(board, stand, hand, point)
        except (NoLay, NoBreath):
            continue
        found.append((point, told[0], told[1]))
    return found


def filled(stand, points, what):
    changed = list(stand)
    for point in points:
        changed[point] = what
    return tuple(changed)


def breathless(board, stand, hand):
    found = []
    for row in rows(board, stand):
        if stand[row[0]] == hand and not breaths(board, stand, row):
            found.extend(row)
    return sorted(found)
