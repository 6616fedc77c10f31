import itertools
import unittest

from stonebreath.rows import breaths, is_sound, is_stand, lands, patch, rows, sides
from tests.helping import (
    GREAT, Case, all_stands, grid_board, joined, picture, slow_breaths, slow_lands, slow_patches, slow_rows,
    slow_sides, slow_sound, small_boards, some_stands,
)

PATH = joined(5, [(0, 1), (1, 2), (2, 3), (3, 4)])


def tried_stands():
    """Boards with stands, sound and not: all of the small boards, some of the grid 3 by 3."""
    for board in small_boards(4):
        for stand in all_stands(board):
            yield board, stand
    board = grid_board(3, 3)
    for stand in some_stands(board, 11):
        yield board, stand


class IsStandTest(Case):
    def test_all_stands_sound_or_not(self):
        for board in (((),), joined(2, [(0, 1)]), joined(4, [(0, 1), (1, 2), (0, 2)])):
            for stand in all_stands(board):
                self.asks(True, is_stand, board, stand)
        for what in (0, 1, 2):
            self.asks(True, is_stand, grid_board(6, 6), (what,) * 36)

    def test_a_tuple_too_short_or_too_long(self):
        for board in (((),), PATH, grid_board(6, 6)):
            for many in (0, 1, 2, 4, 5, 6, 35, 36, 37, 200):
                self.asks(many == len(board), is_stand, board, (0,) * many)

    def test_a_thing_that_no_point_holds(self):
        things = (3, 4, -1, -2, GREAT, -GREAT, True, False, None, "0", "", "x", (0,), (), [0], [], {}, 0.0, 1.0, 2.5)
        for thing in things:
            for place in range(5):
                stand = [0, 1, 2, 1, 0]
                stand[place] = thing
                self.asks(False, is_stand, PATH, tuple(stand))
            self.asks(False, is_stand, PATH, (thing,) * 5)
            self.asks(False, is_stand, ((),), (thing,))

    def test_what_is_no_tuple(self):
        things = ([0] * 5, {}, {0: 0, 1: 0, 2: 0, 3: 0, 4: 0}, {0, 1, 2}, None, True, False, 0, 5, -1, GREAT)
        for thing in things + ("", "00000", ".....", 1.5, ()):
            self.asks(False, is_stand, PATH, thing)
        for thing in ([0], {0: 0}, {0}, None, 0, 1, "0", ()):
            self.asks(False, is_stand, ((),), thing)


class PatchTest(Case):
    def test_of_a_free_point_and_of_stones(self):
        stand = picture("xx.", "ox.", ".oo")
        board = grid_board(3, 3)
        for points in ([0, 1, 4], [3], [7, 8], [2, 5], [6]):
            for point in points:
                self.asks(points, patch, board, stand, point)

    def test_of_a_point_by_itself(self):
        for what in (0, 1, 2):
            self.asks([0], patch, ((),), (what,), 0)
            self.asks([1], patch, ((), (), ()), (what,) * 3, 1)

    def test_like_points_that_no_like_points_join(self):
        self.asks([0], patch, PATH, (1, 2, 1, 0, 1), 0)
        self.asks([2], patch, PATH, (1, 2, 1, 0, 1), 2)
        self.asks([4], patch, PATH, (0, 0, 1, 2, 0), 4)

    def test_the_whole_board(self):
        for what in (0, 1, 2):
            self.asks(list(range(36)), patch, grid_board(6, 6), (what,) * 36, 21)

    def test_all_small_ones(self):
        for board, stand in tried_stands():
            for points in slow_patches(board, stand):
                for point in points:
                    self.same(patch(board, stand, point), points)


class RowsAndLandsTest(Case):
    def test_a_sound_stand(self):
        stand = picture("xx.", "ox.", ".oo")
        self.asks([[0, 1, 4], [3], [7, 8]], rows, grid_board(3, 3), stand)
        self.asks([[2, 5], [6]], lands, grid_board(3, 3), stand)

    def test_a_stand_that_is_not_sound(self):
        self.asks([[0], [1], [2, 3]], rows, PATH, (2, 1, 2, 2, 0))
        self.asks([[4]], lands, PATH, (2, 1, 2, 2, 0))
        self.asks([[0, 1], [2, 3, 4]], rows, PATH, (1, 1, 2, 2, 2))
        self.asks([], lands, PATH, (1, 1, 2, 2, 2))

    def test_no_stones_and_no_free_points(self):
        self.asks([], rows, PATH, (0,) * 5)
        self.asks([[0, 1, 2, 3, 4]], lands, PATH, (0,) * 5)
        self.asks([[0], [1], [2]], lands, ((), (), ()), (0, 0, 0))
        self.asks([[0], [1], [2]], rows, ((), (), ()), (1, 1, 2))

    def test_rows_and_lands_are_sorted_whatever_their_hand(self):
        board = joined(6, [(0, 5), (1, 4)])
        self.asks([[0, 5], [1, 4], [2]], rows, board, (2, 1, 2, 0, 1, 2))
        self.asks([[0, 5], [3]], lands, board, (0, 1, 2, 0, 1, 0))

    def test_all_small_ones(self):
        for board, stand in tried_stands():
            self.asks(slow_rows(board, stand), rows, board, stand)
            self.asks(slow_lands(board, stand), lands, board, stand)

    def test_each_point_is_in_just_one_of_them(self):
        board = grid_board(6, 6)
        stand = tuple((p * p + p // 5) % 3 for p in range(36))
        stones = list(itertools.chain(*rows(board, stand)))
        free = list(itertools.chain(*lands(board, stand)))
        self.assertEqual(sorted(stones), [p for p in range(36) if stand[p] != 0])
        self.assertEqual(sorted(free), [p for p in range(36) if stand[p] == 0])
        self.asks(slow_rows(board, stand), rows, board, stand)
        self.asks(slow_lands(board, stand), lands, board, stand)


class BreathsTest(Case):
    def test_none_one_and_more(self):
        self.asks([], breaths, PATH, (1, 2, 0, 0, 0), [0])
        self.asks([2], breaths, PATH, (1, 2, 0, 0, 0), [1])
        self.asks([1, 3], breaths, PATH, (0, 0, 2, 0, 0), [2])
        self.asks([0, 3], breaths, PATH, (0, 1, 1, 0, 0), [1, 2])
        self.asks([], breaths, ((),), (1,), [0])

    def test_a_breath_beside_two_stones_counts_once(self):
        self.asks([3], breaths, grid_board(2, 2), picture("xx", "x."), [0, 1, 2])
        self.asks([4], breaths, grid_board(3, 3), picture("xxx", "x.x", "xxx"), [0, 1, 2, 3, 5, 6, 7, 8])

    def test_breaths_are_rising(self):
        self.asks([1, 3, 5, 7], breaths, grid_board(3, 3), picture("...", ".o.", "..."), [4])
        board = joined(6, [(0, 5), (0, 2), (1, 4), (1, 3), (0, 1)])
        self.asks([2, 3, 4, 5], breaths, board, (1, 1, 0, 0, 0, 0), [0, 1])

    def test_all_small_ones(self):
        for board, stand in tried_stands():
            for row in slow_rows(board, stand):
                self.asks(slow_breaths(board, stand, row), breaths, board, stand, row)

    def test_changing_the_row_behind_the_call(self):
        row = [0]
        told = breaths(PATH, (1, 0, 0, 0, 1), row)
        row[0] = 4
        self.same(told, [1])
        self.same(breaths(PATH, (1, 0, 0, 0, 1), row), [3])
        self.same(breaths(PATH, (1, 0, 0, 0, 1), [0]), [1])
        told.append(9)
        self.same(row, [4])


class SidesTest(Case):
    def test_each_of_the_four(self):
        self.asks([], sides, PATH, (0, 0, 0, 0, 0), [0, 1, 2, 3, 4])
        self.asks([], sides, ((), ()), (0, 1), [0])
        self.asks([1], sides, PATH, (0, 0, 1, 2, 0), [0, 1])
        self.asks([2], sides, PATH, (0, 0, 1, 2, 0), [4])
        self.asks([1, 2], sides, PATH, (1, 0, 0, 2, 0), [1, 2])
        self.asks([1, 2], sides, PATH, (2, 0, 0, 1, 0), [1, 2])

    def test_a_hand_with_several_stones_beside_it_counts_once(self):
        board = grid_board(3, 3)
        self.asks([1], sides, board, picture("xxx", "x.x", "xxx"), [4])
        self.asks([2], sides, board, picture("ooo", "o.o", "ooo"), [4])
        self.asks([1, 2], sides, board, picture("oxo", "o.x", "oox"), [4])

    def test_stones_that_are_not_beside_it_do_not_count(self):
        self.asks([1], sides, grid_board(3, 3), picture(".x.", "xoo", "ooo"), [0])

    def test_all_small_ones(self):
        for board, stand in tried_stands():
            for land in slow_lands(board, stand):
                self.asks(slow_sides(board, stand, land), sides, board, stand, land)

    def test_changing_the_land_behind_the_call(self):
        land = [0]
        stand = (0, 1, 1, 2, 0)
        told = sides(PATH, stand, land)
        land[0] = 4
        self.same(told, [1])
        self.same(sides(PATH, stand, land), [2])
        self.same(sides(PATH, stand, [0]), [1])


class IsSoundTest(Case):
    def test_sound_stands(self):
        self.asks(True, is_sound, PATH, (0, 0, 0, 0, 0))
        self.asks(True, is_sound, ((),), (0,))
        self.asks(True, is_sound, PATH, (1, 1, 0, 2, 2))
        self.asks(True, is_sound, PATH, (0, 1, 2, 0, 0))

    def test_stands_that_are_not(self):
        self.asks(False, is_sound, ((),), (1,))
        self.asks(False, is_sound, PATH, (1, 1, 1, 1, 1))
        self.asks(False, is_sound, PATH, (1, 2, 1, 2, 2))
        self.asks(False, is_sound, PATH, (1, 2, 0, 0, 0))
        self.asks(False, is_sound, PATH, (0, 0, 0, 1, 2))
        self.asks(False, is_sound, PATH, (0, 2, 1, 2, 0))
        self.asks(False, is_sound, ((1,), (0,), ()), (0, 0, 2))

    def test_all_small_ones(self):
        for board, stand in tried_stands():
            self.asks(slow_sound(board, stand), is_sound, board, stand)


if __name__ == "__main__":
    unittest.main()
