"""What several stages need: whole numbers, and those written by their figures, the other hand, patches of points."""

FIGURES = "0123456789"
MOST_FIGURES = 60


def is_whole(thing):
    # To Python True and False are ints; to the document they are no numbers.
    return isinstance(thing, int) and not isinstance(thing, bool)


def number_of(word):
    # Some signs beyond these ten are figures to Python too, so each is looked up.
    if not 1 <= len(word) <= MOST_FIGURES or not all([sign in FIGURES for sign in word]):
        return None
    if word[0] == "0" and word != "0":
        return None
    return int(word)


def other_hand(hand):
    return 3 - hand


def patch_of(board, marks, start):
    found = {start: True}
    waiting = [start]
    while waiting:
        point = waiting.pop()
        for beside in board[point]:
            if beside not in found and marks[beside] == marks[start]:
                found[beside] = True
                waiting.append(beside)
    return sorted(found)


def patches(board, marks):
    # Each patch is found from its least point, so the list comes out sorted.
    met = {}
    found = []
    for start in range(len(board)):
        if start not in met:
            points = patch_of(board, marks, start)
            found.append(points)
            for point in points:
                met[point] = True
    return found
