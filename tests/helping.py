"""What the tests share: asking in a way that watches promise [2], small boards, and slow second answers."""

import copy
import itertools
import unittest

GREAT = 10 ** 59
NO_NUMBERS = (True, False, None, "1", "", (1,), (), [1], {}, 1.0, 1.5)


class Case(unittest.TestCase):
    def same(self, told, wanted):
        # The written form tells a tuple from a list and True from 1; == doesn't.
        self.assertEqual(repr(told), repr(wanted))

    def asked(self, call, *given):
        """The answer, after a look that nothing handed in was changed and that each answer is the asker's own."""
        ahead = repr(given)
        first = call(*given)
        answer = copy.deepcopy(first)
        second = call(*given)
        self.same(second, answer)
        spoil(second)
        self.same(first, answer)
        spoil(first)
        self.same(call(*given), answer)
        self.assertEqual(repr(given), ahead)
        return answer

    def asks(self, wanted, call, *given):
        self.same(self.asked(call, *given), wanted)

    def refused(self, error, call, *given):
        """Refused with this very error, twice, and nothing handed in changed."""
        ahead = repr(given)
        for time in (1, 2):
            try:
                told = call(*given)
            except ValueError as e:
                self.assertIs(type(e), error, given)
            else:
                self.fail(f"{given!r} told {told!r}, not refused with {error.__name__}")
        self.assertEqual(repr(given), ahead)


def spoil(answer):
    """Changes all of an answer that can be changed."""
    if isinstance(answer, (list, tuple)):
        for thing in answer:
            spoil(thing)
    if isinstance(answer, list):
        answer.reverse()
        answer.append("spoiled")


def joined(many, lines):
    """The board, told straight from the words of [4]."""
    return tuple(
        tuple(q for q in range(many) if (p, q) in lines or (q, p) in lines)
        for p in range(many)
    )


def small_boards(most):
    """All boards of 1 to most points."""
    for many in range(1, most + 1):
        pairs = list(itertools.combinations(range(many), 2))
        for picked in itertools.product((False, True), repeat=len(pairs)):
            yield joined(many, [pair for pair, there in zip(pairs, picked) if there])


def grid_board(wide, high):
    places = [(x, y) for y in range(high) for x in range(wide)]
    return tuple(
        tuple(q for q, (u, v) in enumerate(places) if abs(x - u) + abs(y - v) == 1)
        for x, y in places
    )


def all_stands(board):
    return itertools.product((0, 1, 2), repeat=len(board))


def some_stands(board, step):
    return itertools.islice(all_stands(board), 0, None, step)


def slow_patches(board, marks):
    """Patches by another way than the program's: least names handed on until nothing changes."""
    names = list(range(len(board)))
    changed = True
    while changed:
        changed = False
        for p in range(len(board)):
            for q in board[p]:
                if marks[p] == marks[q] and names[q] < names[p]:
                    names[p] = names[q]
                    changed = True
    return sorted([p for p in range(len(board)) if names[p] == name] for name in set(names))


def slow_rows(board, stand):
    return [points for points in slow_patches(board, stand) if stand[points[0]] in (1, 2)]


def slow_lands(board, stand):
    return [points for points in slow_patches(board, stand) if stand[points[0]] == 0]


def slow_breaths(board, stand, row):
    return [p for p in range(len(board)) if stand[p] == 0 and any(q in row for q in board[p])]


def slow_sides(board, stand, land):
    return [hand for hand in (1, 2) if any(stand[p] == hand and set(board[p]) & set(land) for p in range(len(board)))]


def slow_sound(board, stand):
    return all(slow_breaths(board, stand, row) for row in slow_rows(board, stand))


def picture(*lines):
    """A stand of a grid from lines of signs: . free, x of hand 1, o of hand 2."""
    return tuple(".xo".index(sign) for line in lines for sign in line)
