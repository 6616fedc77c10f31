"""Lays: a stone is laid, and what has no breath then is taken."""

from stonebreath.common import other_hand
from stonebreath.errors import NoBreath, NoLay
from stonebreath.rows import breaths, patch, rows


def laid(board, stand, hand, point):
    if stand[point] != 0:
        raise NoLay(f"point {point} is not free")
    full = filled(stand, [point], hand)
    taken = breathless(board, full, other_hand(hand))
    behind = filled(full, taken, 0)
    if not breaths(board, behind, patch(board, behind, point)):
        raise NoBreath(f"a stone on point {point} has no breath")
    return (behind, taken)


def lays_on(board, stand, hand, points):
    found = []
    for point in points:
        try:
            told = laid(board, stand, hand, point)
        except (NoLay, NoBreath):
            continue
        found.append((point, told[0], told[1]))
    return found


def new_lays(board, came, hand, points):
    return [lay for lay in lays_on(board, came[-1], hand, points) if lay[1] not in came]


# The points rise, and the pass comes behind them: so a web that is put together by a walk over these comes out sorted.
def steps(board, came, hand):
    found = [(lay[0], lay[1]) for lay in new_lays(board, came, hand, list(range(len(board))))]
    found.append((None, came[-1]))
    return found


def filled(stand, points, what):
    changed = list(stand)
    for point in points:
        changed[point] = what
    return tuple(changed)


def breathless(board, stand, hand):
    found = []
    for row in rows(board, stand):
        if stand[row[0]] == hand and not breaths(board, stand, row):
            found.extend(row)
    return sorted(found)
