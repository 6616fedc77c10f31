"""What the tests share: asking in a way that watches promise [2], small boards, and slow second answers."""

import copy
import itertools
import random
import unittest

from stonebreath.errors import NoBreath, NoLay

GREAT = 10 ** 59
NO_NUMBERS = (True, False, None, "1", "", (1,), (), [1], {}, 1.0, 1.5)


class Case(unittest.TestCase):
    def same(self, told, wanted):
        # The written form tells a tuple from a list and True from 1; == doesn't.
        self.assertEqual(repr(told), repr(wanted))

    def asked(self, call, *given):
        """The answer, after a look that nothing handed in was changed and that each answer is the asker's own."""
        ahead = repr(given)
        first = call(*given)
        answer = copy.deepcopy(first)
        second = call(*given)
        self.same(second, answer)
        spoil(second)
        self.same(first, answer)
        spoil(first)
        self.same(call(*given), answer)
        self.assertEqual(repr(given), ahead)
        return answer

    def asks(self, wanted, call, *given):
        self.same(self.asked(call, *given), wanted)

    def refused(self, error, call, *given):
        """Refused with this very error, twice, and nothing handed in changed."""
        ahead = repr(given)
        for time in (1, 2):
            try:
                told = call(*given)
            except ValueError as e:
                self.assertIs(type(e), error, given)
            else:
                self.fail(f"{given!r} told {told!r}, not refused with {error.__name__}")
        self.assertEqual(repr(given), ahead)


def spoil(answer):
    """Changes all of an answer that can be changed."""
    if isinstance(answer, (list, tuple)):
        for thing in answer:
            spoil(thing)
    if isinstance(answer, list):
        answer.reverse()
        answer.append("spoiled")


def joined(many, lines):
    """The board, told straight from the words of [4]."""
    return tuple(
        tuple(q for q in range(many) if (p, q) in lines or (q, p) in lines)
        for p in range(many)
    )


def small_boards(most):
    """All boards of 1 to most points."""
    for many in range(1, most + 1):
        pairs = list(itertools.combinations(range(many), 2))
        for picked in itertools.product((False, True), repeat=len(pairs)):
            yield joined(many, [pair for pair, there in zip(pairs, picked) if there])


def grid_board(wide, high):
    places = [(x, y) for y in range(high) for x in range(wide)]
    return tuple(
        tuple(q for q, (u, v) in enumerate(places) if abs(x - u) + abs(y - v) == 1)
        for x, y in places
    )


def all_stands(board):
    return itertools.product((0, 1, 2), repeat=len(board))


def some_stands(board, step):
    return itertools.islice(all_stands(board), 0, None, step)


def slow_patches(board, marks):
    """Patches by another way than the program's: least names handed on until nothing changes."""
    names = list(range(len(board)))
    changed = True
    while changed:
        changed = False
        for p in range(len(board)):
            for q in board[p]:
                if marks[p] == marks[q] and names[q] < names[p]:
                    names[p] = names[q]
                    changed = True
    return sorted([p for p in range(len(board)) if names[p] == name] for name in set(names))


def slow_rows(board, stand):
    return [points for points in slow_patches(board, stand) if stand[points[0]] in (1, 2)]


def slow_lands(board, stand):
    return [points for points in slow_patches(board, stand) if stand[points[0]] == 0]


def slow_breaths(board, stand, row):
    return [p for p in range(len(board)) if stand[p] == 0 and any(q in row for q in board[p])]


def slow_sides(board, stand, land):
    return [hand for hand in (1, 2) if any(stand[p] == hand and set(board[p]) & set(land) for p in range(len(board)))]


def slow_sound(board, stand):
    return all(slow_breaths(board, stand, row) for row in slow_rows(board, stand))


def slow_laid(board, stand, hand, point):
    """What [9] tells: a stand and the points taken, or the refusal."""
    if stand[point] != 0:
        return NoLay
    other = slow_other(hand)
    # In a sound stand the stones taken are those of the rows that had just this point as breath.
    taken = [row for row in slow_rows(board, stand) if stand[row[0]] == other]
    taken = sorted(itertools.chain(*[row for row in taken if slow_breaths(board, stand, row) == [point]]))
    behind = tuple(hand if p == point else 0 if p in taken else stand[p] for p in range(len(board)))
    own = [row for row in slow_rows(board, behind) if point in row][0]
    return (behind, taken) if slow_breaths(board, behind, own) else NoBreath


def slow_other(hand):
    return {1: 2, 2: 1}[hand]


def slow_lays(board, stand, hand):
    """The stands behind all lays that aren't refused, by their points."""
    tried = [(point, slow_laid(board, stand, hand, point)) for point in range(len(board))]
    return {point: told[0] for point, told in tried if told not in (NoLay, NoBreath)}


def picture(*lines):
    """A stand of a grid from lines of signs: . free, x of hand 1, o of hand 2."""
    return tuple(".xo".index(sign) for line in lines for sign in line)


def path_board(many):
    return joined(many, [(p, p + 1) for p in range(many - 1)])


def sound_stands(board, step=1):
    return (stand for stand in some_stands(board, step) if slow_sound(board, stand))


def chance_boards(seed, times, many, least_lines, most_lines):
    """Boards that are the same in each run, with some of all lines."""
    chance = random.Random(seed)
    pairs = list(itertools.combinations(range(many), 2))
    for time in range(times):
        yield joined(many, chance.sample(pairs, chance.randint(least_lines, most_lines)))


def chance_stand(chance, board, fullness):
    """A sound stand: stones in about fullness of ten points, less those without a breath."""
    stand = tuple(chance.choice((1, 2)) if chance.randrange(10) < fullness else 0 for point in board)
    while not slow_sound(board, stand):
        dead = [row for row in slow_rows(board, stand) if not slow_breaths(board, stand, row)]
        stand = tuple(0 if any(p in row for row in dead) else stand[p] for p in range(len(board)))
    return stand


def renamed_board(board, order):
    return tuple(tuple(sorted(order[q] for q in board[order.index(p)])) for p in range(len(board)))


def renamed_stand(stand, order):
    return tuple(stand[order.index(p)] for p in range(len(stand)))


def renamed_lists(lists, order):
    return sorted(sorted(order[p] for p in points) for points in lists)


def exchanged_stand(stand):
    return tuple((0, 2, 1)[what] for what in stand)
