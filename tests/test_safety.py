import itertools
import random
import unittest

from stonebreath.errors import NoBreath, NoLay
from stonebreath.safety import closes, holds, safe, taking
from tests.helping import (
    GREAT, Case, chance_boards, chance_stand, exchanged_stand, grid_board, joined, path_board, picture, renamed_board,
    renamed_lists, renamed_stand, slow_laid, slow_lays, slow_other, slow_patches, slow_rows, small_boards,
    sound_stands,
)

# Hand 1 with two eyes of one point each, and hand 2 beside it.
TWO_EYES = (grid_board(5, 2), picture(".x.xo", "xxxx."))


def slow_closes(board, stand, hand):
    return [points for points in slow_patches(board, [what == hand for what in stand]) if stand[points[0]] != hand]


def hand_rows(board, stand, hand):
    return [row for row in slow_rows(board, stand) if stand[row[0]] == hand]


def is_beside(board, row, close):
    return any(q in close for p in row for q in board[p])


def is_held(board, stand, row, close):
    return all(any(q in row for q in board[p]) for p in close if stand[p] == 0)


def slow_holds(board, stand, hand, paper):
    """The look, told straight from the words of [15], of a paper of lists of points."""
    some_rows, some_closes = paper
    if any(row not in hand_rows(board, stand, hand) for row in some_rows):
        return False
    if any(close not in slow_closes(board, stand, hand) for close in some_closes):
        return False
    if len(set(map(tuple, some_rows))) < len(some_rows) or len(set(map(tuple, some_closes))) < len(some_closes):
        return False
    for row in hand_rows(board, stand, hand):
        if row not in some_rows and any(is_beside(board, row, close) for close in some_closes):
            return False
    return all(sum(is_held(board, stand, row, close) for close in some_closes) >= 2 for row in some_rows)


def some_of(things):
    return [list(picked) for many in range(len(things) + 1) for picked in itertools.combinations(things, many)]


def all_papers(board, stand, hand):
    for some_rows in some_of(hand_rows(board, stand, hand)):
        for some_closes in some_of(slow_closes(board, stand, hand)):
            yield (some_rows, some_closes)


def reached(board, stand, hand):
    """All stands to which lays of this hand alone lead."""
    found, waiting = {stand}, [stand]
    while waiting:
        for behind in slow_lays(board, waiting.pop(), hand).values():
            if behind not in found:
                found.add(behind)
                waiting.append(behind)
    return found


def tried(step=1):
    """Small boards with sound stands."""
    for board in small_boards(4):
        for stand in sound_stands(board):
            yield board, stand
    for board in (path_board(6), grid_board(3, 2), joined(6, [(0, p) for p in range(1, 6)])):
        for stand in sound_stands(board, 3 * step):
            yield board, stand
    for board in chance_boards(2, 6, 6, 5, 10):
        for stand in sound_stands(board, 13 * step):
            yield board, stand


class ClosesTest(Case):
    def test_the_empty_stand(self):
        for hand in (1, 2):
            self.asks([[0]], closes, ((),), (0,), hand)
            self.asks([list(range(36))], closes, grid_board(6, 6), (0,) * 36, hand)
            self.asks([[0, 4], [1, 3], [2]], closes, joined(5, [(4, 0), (3, 1)]), (0,) * 5, hand)

    def test_stands_of_one_hand(self):
        self.asks([[0, 1], [3, 4]], closes, path_board(5), (0, 0, 1, 0, 0), 1)
        self.asks([[0, 1, 2, 3, 4]], closes, path_board(5), (0, 0, 1, 0, 0), 2)
        self.asks([[0, 1, 2, 3, 4]], closes, path_board(5), (0, 0, 2, 0, 0), 1)
        self.asks([[0, 1], [3, 4]], closes, path_board(5), (0, 0, 2, 0, 0), 2)

    def test_stands_of_both_hands(self):
        self.asks([[0], [2, 3, 4]], closes, path_board(5), (0, 1, 2, 0, 2), 1)
        self.asks([[0, 1], [3]], closes, path_board(5), (0, 1, 2, 0, 2), 2)
        board, stand = TWO_EYES
        self.asks([[0], [2], [4, 9]], closes, board, stand, 1)
        self.asks([[0, 1, 2, 3, 5, 6, 7, 8, 9]], closes, board, stand, 2)

    def test_all_small_ones(self):
        for board, stand in tried():
            for hand in (1, 2):
                self.asks(slow_closes(board, stand, hand), closes, board, stand, hand)


class PaperCase(Case):
    def lets_by(self, wanted, board, stand, hand, paper):
        self.asks(wanted, holds, board, stand, hand, paper)


class HoldsTest(PaperCase):
    def test_the_empty_paper(self):
        for board, stand in itertools.islice(tried(), 0, None, 50):
            for hand in (1, 2):
                self.lets_by(True, board, stand, hand, ([], []))

    def test_papers_of_two_eyes(self):
        board, stand = TWO_EYES
        row = [1, 3, 5, 6, 7, 8]
        self.lets_by(True, board, stand, 1, ([row], [[0], [2]]))
        self.lets_by(True, board, stand, 1, ([row], [[2], [0]]))
        self.lets_by(True, board, stand, 1, ([row], [[2], [4, 9], [0]]))
        self.lets_by(True, board, stand, 1, ([row], [[2], [4, 9]]))

    def test_a_row_that_holds_one_close_alone(self):
        board, stand = TWO_EYES
        row = [1, 3, 5, 6, 7, 8]
        for close in ([0], [2], [4, 9]):
            self.lets_by(False, board, stand, 1, ([row], [close]))
        self.lets_by(False, board, stand, 1, ([row], []))
        self.lets_by(False, path_board(5), (0, 0, 1, 0, 0), 1, ([[2]], [[0, 1], [3, 4]]))

    def test_a_row_left_out_that_is_beside_a_close(self):
        board, stand = TWO_EYES
        self.lets_by(False, board, stand, 1, ([], [[0]]))
        self.lets_by(False, board, stand, 1, ([], [[0], [2]]))
        board = path_board(7)
        self.lets_by(True, board, (0, 1, 0, 1, 0, 2, 0), 1, ([], []))
        self.lets_by(False, board, (0, 1, 0, 1, 0, 2, 0), 1, ([[1]], [[0], [2]]))
        self.lets_by(True, path_board(5), (0, 1, 0, 1, 0), 1, ([[1], [3]], [[0], [2], [4]]))
        self.lets_by(False, path_board(5), (0, 1, 0, 1, 0), 1, ([[1]], [[0], [2]]))
        self.lets_by(False, path_board(5), (0, 1, 0, 1, 0), 1, ([[1]], [[0], [2], [4]]))

    def test_a_close_beside_no_row(self):
        board = joined(5, [(0, 1), (1, 2), (3, 4)])
        self.lets_by(True, board, (0, 1, 0, 0, 2), 1, ([], [[3, 4]]))
        self.lets_by(True, board, (0, 1, 0, 0, 2), 1, ([[1]], [[3, 4], [2], [0]]))
        self.lets_by(False, board, (0, 1, 0, 0, 2), 1, ([[1]], [[3, 4], [2]]))

    def test_one_twice(self):
        board, stand = TWO_EYES
        row = [1, 3, 5, 6, 7, 8]
        self.lets_by(False, board, stand, 1, ([row, row], [[0], [2]]))
        self.lets_by(False, board, stand, 1, ([row, list(row)], [[0], [2]]))
        self.lets_by(False, board, stand, 1, ([row], [[0], [2], [0]]))
        self.lets_by(False, board, stand, 1, ([row], [[0], [0]]))
        self.lets_by(False, joined(2, []), (0, 0), 1, ([], [[0], [0]]))

    def test_what_is_no_row_or_no_close(self):
        board, stand = TWO_EYES
        row, shut = [1, 3, 5, 6, 7, 8], [[0], [2]]
        for bad in (
            [], [1], [1, 3], row[:-1], row + [9], [0], [2], [4], [4, 9], row[::-1], [3, 1, 5, 6, 7, 8], row + [8],
            [99], [-1], [GREAT], [1, 3, 5, 6, 7, -2], list(range(10)),
        ):
            self.lets_by(False, board, stand, 1, ([bad], shut))
            self.lets_by(False, board, stand, 1, ([row, bad], shut))
            self.lets_by(False, board, stand, 1, ([bad, row], shut))
        for bad in ([], [1], [4], [9], [9, 4], [4, 9, 9], [0, 2], row, [0, 0], [99], [-1], [-10], [GREAT]):
            self.lets_by(False, board, stand, 1, ([row], shut + [bad]))
            self.lets_by(False, board, stand, 1, ([row], [bad] + shut))
            self.lets_by(False, board, stand, 1, ([], [bad]))

    def test_rows_and_closes_of_the_other_hand(self):
        board, stand = TWO_EYES
        self.lets_by(False, board, stand, 2, ([[1, 3, 5, 6, 7, 8]], [[0], [2]]))
        self.lets_by(False, board, stand, 2, ([[4]], []))
        self.lets_by(False, board, stand, 1, ([[4]], []))
        self.lets_by(False, board, stand, 1, ([[0], [2]], [[1, 3, 5, 6, 7, 8]]))

    def test_truths_are_no_points(self):
        board = path_board(3)
        self.lets_by(True, board, (0, 1, 0), 1, ([[1]], [[0], [2]]))
        self.lets_by(False, board, (0, 1, 0), 1, ([[True]], [[0], [2]]))
        self.lets_by(False, board, (0, 1, 0), 1, ([[1]], [[False], [2]]))
        self.lets_by(False, board, (0, 1, 0), 1, ([[1]], [[0], [2.0]]))

    def test_what_is_no_paper(self):
        board, stand = path_board(3), (0, 1, 0)
        for thing in (None, True, 0, "", (), ([],), ([], [], []), [[], []], [[[1]], [[0], [2]]], {}, "ab", (0, 0)):
            self.lets_by(False, board, stand, 1, thing)
        for thing in (None, True, 0, 1, "", "1", (), (1,), ((1,),), {}, {1: 1}, [1], [None], ["1"], [(1,)], [[[1]]]):
            self.lets_by(False, board, stand, 1, (thing, [[0], [2]]))
            self.lets_by(False, board, stand, 1, ([[1]], thing))

    def test_all_papers_of_small_ones(self):
        for board, stand in tried(4):
            for hand in (1, 2):
                for paper in all_papers(board, stand, hand):
                    self.same(holds(board, stand, hand, paper), slow_holds(board, stand, hand, paper))

    def test_any_order_will_do(self):
        chance = random.Random(8)
        for board, stand in itertools.islice(tried(), 0, None, 7):
            for hand in (1, 2):
                told = safe(board, stand, hand)
                turned = (chance.sample(told[0], len(told[0])), chance.sample(told[1], len(told[1])))
                self.lets_by(True, board, stand, hand, turned)

    def test_changing_the_paper_behind_the_call(self):
        paper = ([[1]], [[0], [2]])
        self.same(holds(path_board(3), (0, 1, 0), 1, paper), True)
        paper[1].pop()
        self.same(holds(path_board(3), (0, 1, 0), 1, paper), False)
        self.same(safe(path_board(3), (0, 1, 0), 1), ([[1]], [[0], [2]]))


class SafeTest(PaperCase):
    def test_no_stones(self):
        self.asks(([], [[0]]), safe, ((),), (0,), 1)
        self.asks(([], [[0, 1], [2]]), safe, joined(3, [(0, 1)]), (0, 0, 0), 2)

    def test_two_eyes_and_one(self):
        board, stand = TWO_EYES
        self.asks(([[1, 3, 5, 6, 7, 8]], [[0], [2], [4, 9]]), safe, board, stand, 1)
        self.asks(([], []), safe, board, stand, 2)
        self.asks(([], []), safe, path_board(4), (0, 1, 0, 0), 1)
        self.asks(([[1]], [[0], [2]]), safe, path_board(3), (0, 1, 0), 1)

    def test_rows_that_save_one_another(self):
        self.asks(([[1], [3]], [[0], [2], [4]]), safe, path_board(5), (0, 1, 0, 1, 0), 1)
        self.asks(([[1], [3]], [[0], [2], [4]]), safe, path_board(5), (0, 2, 0, 2, 0), 2)

    def test_a_row_that_falls_draws_others_with_it(self):
        board = path_board(9)
        stand = (0, 1, 0, 1, 0, 1, 0, 0, 0)
        self.asks(([], []), safe, board, stand, 1)
        self.asks(([[1], [3], [5], [7]], [[0], [2], [4], [6], [8]]), safe, board, (0, 1, 0, 1, 0, 1, 0, 1, 0), 1)

    def test_free_points_of_a_close_that_are_not_joined_to_the_row(self):
        board = grid_board(3, 3)
        self.asks(([], []), safe, board, picture("..x", ".xx", "xx."), 1)
        self.asks(([[2, 4, 5, 6, 7]], [[0, 1, 3], [8]]), safe, board, picture("o.x", ".xx", "xx."), 1)
        board = grid_board(4, 3)
        wanted = ([[2, 6, 7, 8, 9, 10]], [[0, 1, 4, 5], [3], [11]])
        self.asks(wanted, safe, board, picture("..x.", "..xx", "xxx."), 1)

    def test_a_close_beside_no_row_of_the_hand(self):
        board = joined(5, [(0, 1), (1, 2), (3, 4)])
        self.asks(([[1]], [[0], [2], [3, 4]]), safe, board, (0, 1, 0, 0, 2), 1)
        self.asks(([], [[0, 1, 2]]), safe, board, (0, 1, 0, 0, 2), 2)

    def test_the_greatest_of_all_papers(self):
        for board, stand in tried():
            for hand in (1, 2):
                good = [paper for paper in all_papers(board, stand, hand) if slow_holds(board, stand, hand, paper)]
                wanted = tuple(
                    [points for points in known if any(points in paper[side] for paper in good)]
                    for side, known in ((0, hand_rows(board, stand, hand)), (1, slow_closes(board, stand, hand)))
                )
                self.asks(wanted, safe, board, stand, hand)
                self.lets_by(True, board, stand, hand, wanted)

    def test_safe_rows_lie_still_and_stay_safe_behind_all_lays_of_the_other_hand_alone(self):
        for board, stand in self.lying():
            for hand in (1, 2):
                told = safe(board, stand, hand)[0]
                if told:
                    for behind in reached(board, stand, slow_other(hand)):
                        self.assertTrue(all(behind[p] == hand for row in told for p in row), (board, stand))
                        again = safe(board, behind, hand)[0]
                        self.assertTrue(all(row in again for row in told), (board, stand, behind))

    def test_rows_of_any_paper_that_is_let_by_lie_still(self):
        for board, stand in tried(5):
            for hand in (1, 2):
                for paper in all_papers(board, stand, hand):
                    if paper[0] and holds(board, stand, hand, paper):
                        for behind in reached(board, stand, slow_other(hand)):
                            self.assertTrue(all(behind[p] == hand for row in paper[0] for p in row))

    def test_each_row_that_is_not_safe_can_be_taken(self):
        for board, stand in self.lying():
            for hand in (1, 2):
                told = safe(board, stand, hand)[0]
                behinds = reached(board, stand, slow_other(hand))
                for row in hand_rows(board, stand, hand):
                    self.same(any(behind[row[0]] == 0 for behind in behinds), row not in told)

    def lying(self):
        yield from itertools.islice(tried(), 0, None, 3)
        yield from ((grid_board(3, 3), stand) for stand in sound_stands(grid_board(3, 3), 101))

    def test_other_names_and_hands_exchanged(self):
        chance = random.Random(5)
        boards = [grid_board(4, 4), grid_board(6, 6)] + list(chance_boards(3, 6, 12, 11, 24))
        for board in boards:
            order = tuple(chance.sample(range(len(board)), len(board)))
            for fullness in (4, 6, 8, 9):
                stand = chance_stand(chance, board, fullness)
                for hand in (1, 2):
                    told = safe(board, stand, hand)
                    wanted = (renamed_lists(told[0], order), renamed_lists(told[1], order))
                    self.asks(wanted, safe, renamed_board(board, order), renamed_stand(stand, order), hand)
                    self.asks(told, safe, board, exchanged_stand(stand), slow_other(hand))


class TakingTest(Case):
    def goes_through(self, board, stand, point):
        """The taking, gone through by lays of the other hand alone; None just for safe rows."""
        hand = stand[point]
        is_safe = any(point in row for row in safe(board, stand, hand)[0])
        told = self.asked(taking, board, stand, point)
        if is_safe:
            self.assertIsNone(told)
            return told
        self.assertIsInstance(told, list)
        self.assertTrue(1 <= len(told) <= len(board), told)
        now = stand
        for spot in told:
            self.assertEqual(now[point], hand, (board, stand, point, told))
            behind = slow_laid(board, now, slow_other(hand), spot)
            self.assertNotIn(behind, (NoLay, NoBreath), (board, stand, point, told))
            now = behind[0]
        self.assertEqual(now[point], 0, (board, stand, point, told))
        return told

    def test_one_lay(self):
        self.asks([1], taking, path_board(3), (1, 0, 0), 0)
        self.asks([2], taking, path_board(3), (2, 2, 0), 0)
        self.asks([2], taking, path_board(3), (2, 2, 0), 1)

    def test_safe_rows(self):
        self.asks(None, taking, path_board(3), (0, 1, 0), 1)
        self.asks(None, taking, path_board(5), (0, 2, 0, 2, 0), 3)
        board, stand = TWO_EYES
        for point in (1, 3, 5, 6, 7, 8):
            self.asks(None, taking, board, stand, point)

    def test_the_last_point_of_a_close_must_be_well_chosen(self):
        for stand, point in (
            ((0, 0, 1, 0, 0), 2), ((0, 1, 0, 0, 0), 1), ((0, 0, 2, 2, 0), 3), ((0, 0, 0, 1, 0), 3),
        ):
            self.assertIsNotNone(self.goes_through(path_board(5), stand, point))

    def test_other_rows_must_be_taken_first(self):
        board = path_board(9)
        for point in (1, 3, 5):
            told = self.goes_through(board, (0, 1, 0, 1, 0, 1, 0, 0, 0), point)
            self.assertGreaterEqual(len(told), 2)

    def test_a_stone_alone_on_great_boards(self):
        for point in range(36):
            self.assertIsNotNone(self.goes_through(grid_board(6, 6), (0,) * point + (1,) + (0,) * (35 - point), point))

    def test_all_small_ones(self):
        for board, stand in tried():
            for point in range(len(board)):
                if stand[point] != 0:
                    self.goes_through(board, stand, point)

    def test_some_of_greater_boards(self):
        chance = random.Random(6)
        boards = [grid_board(4, 4), grid_board(6, 6), grid_board(6, 5)] + list(chance_boards(4, 8, 20, 18, 45))
        met = {True: 0, False: 0}
        for board in boards:
            for fullness in (3, 6, 8, 8, 9, 9):
                stand = chance_stand(chance, board, fullness)
                for row in slow_rows(board, stand):
                    met[self.goes_through(board, stand, row[-1]) is None] += 1
        self.assertGreater(min(met.values()), 5, met)


if __name__ == "__main__":
    unittest.main()
