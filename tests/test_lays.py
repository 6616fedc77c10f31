import unittest

from stonebreath.errors import NoBreath, NoLay
from stonebreath.lays import laid, lays_on
from tests.helping import (
    Case, all_stands, grid_board, joined, picture, slow_laid, slow_sound, small_boards, some_stands,
)

PATH = joined(5, [(0, 1), (1, 2), (2, 3), (3, 4)])


class LaidTest(Case):
    def lays(self, board, ahead, hand, point, behind, taken):
        self.asks((behind, taken), laid, board, ahead, hand, point)

    def test_nothing_is_taken(self):
        self.lays(PATH, (0, 0, 0, 0, 0), 1, 2, (0, 0, 1, 0, 0), [])
        self.lays(PATH, (0, 0, 1, 0, 0), 2, 3, (0, 0, 1, 2, 0), [])
        self.lays(PATH, (0, 1, 1, 0, 0), 1, 3, (0, 1, 1, 1, 0), [])

    def test_a_point_that_is_not_free(self):
        for hand in (1, 2):
            for point in (1, 3):
                self.refused(NoLay, laid, PATH, (0, 1, 0, 2, 0), hand, point)

    def test_a_stone_without_a_breath(self):
        self.refused(NoBreath, laid, ((),), (0,), 1, 0)
        self.refused(NoBreath, laid, ((),), (0,), 2, 0)
        self.refused(NoBreath, laid, PATH, (0, 2, 0, 0, 0), 1, 0)
        self.refused(NoBreath, laid, PATH, (0, 1, 0, 0, 0), 2, 0)
        self.refused(NoBreath, laid, grid_board(3, 3), picture(".x.", "x.x", ".x."), 2, 4)

    def test_a_whole_row_without_a_breath(self):
        self.refused(NoBreath, laid, PATH, (0, 1, 2, 0, 0), 1, 0)
        self.refused(NoBreath, laid, PATH, (1, 1, 1, 1, 0), 1, 4)
        self.refused(NoBreath, laid, grid_board(3, 2), picture("x.o", "xo."), 1, 1)

    def test_one_row_is_taken(self):
        self.lays(PATH, (1, 1, 0, 0, 0), 2, 2, (0, 0, 2, 0, 0), [0, 1])
        self.lays(PATH, (0, 0, 0, 2, 2), 1, 2, (0, 0, 1, 0, 0), [3, 4])

    def test_several_rows_are_taken_at_once(self):
        self.lays(PATH, (1, 1, 0, 1, 1), 2, 2, (0, 0, 2, 0, 0), [0, 1, 3, 4])
        self.lays(PATH, (2, 2, 0, 2, 2), 1, 2, (0, 0, 1, 0, 0), [0, 1, 3, 4])
        cross = joined(7, [(3, 0), (3, 6), (3, 2), (6, 1), (2, 4), (2, 5)])
        self.lays(cross, (1, 1, 1, 0, 1, 0, 1), 2, 3, (0, 0, 1, 2, 1, 0, 0), [0, 1, 6])

    def test_the_points_taken_are_rising_over_all_rows(self):
        board = joined(6, [(5, 0), (0, 4), (5, 1), (1, 3), (5, 2)])
        self.lays(board, (2, 2, 0, 2, 2, 0), 1, 5, (0, 0, 0, 0, 0, 1), [0, 1, 3, 4])

    def test_a_row_with_another_breath_stays(self):
        self.lays(PATH, (1, 1, 0, 1, 0), 2, 2, (0, 0, 2, 1, 0), [0, 1])

    def test_a_breath_only_by_what_is_taken(self):
        self.lays(PATH, (0, 1, 2, 0, 0), 2, 0, (2, 0, 2, 0, 0), [1])
        self.lays(grid_board(4, 3), picture(".ox.", "ox..", "x..."), 1, 0, picture("x.x.", ".x..", "x..."), [1, 4])
        self.refused(NoBreath, laid, grid_board(4, 3), picture(".o..", "ox..", "...."), 1, 0)

    def test_own_rows_that_breathe_by_the_taking_alone_are_not_taken(self):
        self.lays(PATH, (1, 0, 2, 2, 2), 2, 1, (0, 2, 2, 2, 2), [0])
        self.lays(PATH, (2, 2, 2, 0, 1), 2, 3, (2, 2, 2, 2, 0), [4])
        self.lays(PATH, (1, 1, 1, 0, 2), 2, 3, (0, 0, 0, 2, 2), [0, 1, 2])

    def test_a_corner_of_the_greatest_grid(self):
        board = grid_board(6, 6)
        stand = picture("......", "......", "......", "......", "....xx", "...xo.")
        behind = picture("......", "......", "......", "......", "....xx", "...x.x")
        self.lays(board, stand, 1, 35, behind, [34])
        self.refused(NoBreath, laid, board, stand, 2, 35)

    def check_all(self, board, stand):
        for hand in (1, 2):
            for point in range(len(board)):
                wanted = slow_laid(board, stand, hand, point)
                if wanted in (NoLay, NoBreath):
                    self.refused(wanted, laid, board, stand, hand, point)
                else:
                    self.asks(wanted, laid, board, stand, hand, point)
                    self.assertTrue(slow_sound(board, wanted[0]))

    def test_all_small_ones(self):
        for board in small_boards(4):
            for stand in all_stands(board):
                if slow_sound(board, stand):
                    self.check_all(board, stand)

    def test_some_of_greater_boards(self):
        ring = joined(6, [(p, (p + 1) % 6) for p in range(6)])
        for board, step in ((PATH, 1), (ring, 5), (grid_board(3, 3), 37)):
            for stand in some_stands(board, step):
                if slow_sound(board, stand):
                    self.check_all(board, stand)

    def test_lays_one_behind_the_other_leave_what_was_told(self):
        first = laid(PATH, (1, 1, 0, 0, 0), 2, 2)
        second = laid(PATH, first[0], 1, 3)
        self.same(first, ((0, 0, 2, 0, 0), [0, 1]))
        self.same(second, ((0, 0, 2, 1, 0), []))
        second[1].append(7)
        self.same(laid(PATH, first[0], 1, 3), ((0, 0, 2, 1, 0), []))

    def test_the_lays_of_several_points_are_those_that_are_not_refused(self):
        wanted = [(4, (0, 0, 1, 0, 1), [3]), (1, (0, 1, 1, 2, 0), [])]
        self.asks(wanted, lays_on, PATH, (0, 0, 1, 2, 0), 1, [4, 2, 1, 3])
        self.asks([], lays_on, PATH, (0, 1, 0, 0, 0), 2, [0, 1])
        self.asks([], lays_on, PATH, (0, 1, 0, 0, 0), 2, [])


if __name__ == "__main__":
    unittest.main()
