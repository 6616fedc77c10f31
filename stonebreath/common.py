"""What several stages need: whole numbers, the other hand, patches of like points."""


def is_whole(thing):
    # To Python True and False are ints; to the document they are no numbers.
    return isinstance(thing, int) and not isinstance(thing, bool)


def other_hand(hand):
    return 3 - hand


def patch_of(board, marks, start):
    found = {start: True}
    waiting = [start]
    while waiting:
        point = waiting.pop()
        for beside in board[point]:
            if beside not in found and marks[beside] == marks[start]:
                found[beside] = True
                waiting.append(beside)
    return sorted(found)


def patches(board, marks):
    # Each patch is found from its least point, so the list comes out sorted.
    met = {}
    found = []
    for start in range(len(board)):
        if start not in met:
            points = patch_of(board, marks, start)
            found.append(points)
            for point in points:
                met[point] = True
    return found
