"""Safe rows: those that nobody can take, with papers, and how any other is taken."""

from stonebreath.common import is_whole, other_hand, patches
from stonebreath.lays import lays_on
from stonebreath.rows import breaths, patch, points_beside, rows

FEWEST_HELD = 2


def closes(board, stand, hand):
    marks = [what == hand for what in stand]
    return [points for points in patches(board, marks) if not marks[points[0]]]


def rows_of(board, stand, hand):
    return [row for row in rows(board, stand) if stand[row[0]] == hand]


def safe(board, stand, hand):
    # What one step drops stands in no paper that is let by, so what is left at last is the greatest one.
    paper = (rows_of(board, stand, hand), closes(board, stand, hand))
    left = kept(board, stand, hand, paper)
    while left != paper:
        paper = left
        left = kept(board, stand, hand, paper)
    return paper


def holds(board, stand, hand, paper):
    if not isinstance(paper, tuple) or len(paper) != 2:
        return False
    if not are_some_of(paper[0], rows_of(board, stand, hand)):
        return False
    if not are_some_of(paper[1], closes(board, stand, hand)):
        return False
    return kept(board, stand, hand, paper) == paper


def are_some_of(things, known):
    if not isinstance(things, list):
        return False
    return all([is_points(thing) and thing in known and things.count(thing) == 1 for thing in things])


def is_points(thing):
    # To Python [True] == [1], so a look among the rows alone would let truths by.
    return isinstance(thing, list) and all([is_whole(point) for point in thing])


def kept(board, stand, hand, paper):
    firm = [row for row in paper[0] if is_firm(board, stand, row, paper[1])]
    walled = [close for close in paper[1] if is_walled(board, stand, hand, close, paper[0])]
    return (firm, walled)


def is_firm(board, stand, row, some_closes):
    near = breaths(board, stand, row)
    held = [close for close in some_closes if is_held(stand, close, near)]
    return len(held) >= FEWEST_HELD


def is_held(stand, close, near):
    return all([point in near for point in close if stand[point] == 0])


def is_walled(board, stand, hand, close, some_rows):
    stones = [point for point in points_beside(board, close) if stand[point] == hand]
    return all([is_in_one(point, some_rows) for point in stones])


def is_in_one(point, some_rows):
    return any([point in row for row in some_rows])


def is_safe(board, stand, point):
    return is_in_one(point, safe(board, stand, stand[point])[0])


def taking(board, stand, point):
    if is_safe(board, stand, point):
        return None
    found = []
    now = stand
    while now[point] != 0:
        lay = unsaving_lay(board, now, point)
        found.append(lay[0])
        now = lay[1]
    return found


def unsaving_lay(board, stand, point):
    # A row that isn't safe can be taken, and a safe one can't: so some lay leaves it unsafe, and any such will do.
    # No point is laid on twice, since no stone of the laying hand is taken: so the lays come to an end.
    hand = other_hand(stand[point])
    for spot in spots(board, stand, point):
        for lay in lays_on(board, stand, hand, [spot]):
            if lay[1][point] == 0 or not is_safe(board, lay[1], point):
                return lay
    return None


def spots(board, stand, point):
    # The row's breaths first: so the taking seldom goes a long way round.
    near = breaths(board, stand, patch(board, stand, point))
    return near + [spot for spot in range(len(board)) if stand[spot] == 0 and spot not in near]
