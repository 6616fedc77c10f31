import itertools
import unittest

from stonebreath.boards import board_of, grid, parts
from stonebreath.errors import NoBoard
from tests.helping import GREAT, NO_NUMBERS, Case, grid_board, joined, slow_patches, small_boards, spoil


class BoardOfTest(Case):
    def test_boards_without_lines(self):
        for many in range(1, 37):
            self.asks(((),) * many, board_of, many, [])

    def test_each_line_is_there_from_both_its_ends(self):
        self.asks(((1,), (0,)), board_of, 2, [(0, 1)])
        self.asks(((1,), (0,)), board_of, 2, [(1, 0)])
        self.asks(((2,), (), (0,)), board_of, 3, [(2, 0)])
        self.asks(((1, 2, 3), (0,), (0,), (0,)), board_of, 4, [(3, 0), (0, 2), (1, 0)])

    def test_all_boards_of_up_to_four_points(self):
        for many in range(1, 5):
            pairs = list(itertools.combinations(range(many), 2))
            for size in range(len(pairs) + 1):
                for lines in itertools.combinations(pairs, size):
                    self.asks(joined(many, lines), board_of, many, list(lines))
                    turned = [(q, p) for p, q in reversed(lines)]
                    self.asks(joined(many, lines), board_of, many, turned)

    def test_lines_in_any_order(self):
        lines = [(0, 1), (2, 1), (2, 3), (3, 0)]
        for order in itertools.permutations(lines):
            self.asks(((1, 3), (0, 2), (1, 3), (0, 2)), board_of, 4, list(order))

    def test_many_points_and_many_lines(self):
        for many in (9, 20, 36):
            lines = [(q, p) if (p + q) % 2 else (p, q) for p, q in itertools.combinations(range(many), 2)]
            lines = lines[::-1][:200]
            self.asks(joined(many, lines), board_of, many, lines)
        ring = [(p, (p + 1) % 36) for p in range(36)]
        self.asks(joined(36, ring), board_of, 36, ring)

    def test_changing_the_lines_behind_the_call_changes_no_board(self):
        lines = [(0, 1), (1, 2)]
        board = board_of(3, lines)
        lines.append((0, 2))
        self.same(board, ((1,), (0, 2), (1,)))
        self.same(board_of(3, [(0, 1), (1, 2)]), ((1,), (0, 2), (1,)))
        self.same(board_of(3, lines), ((1, 2), (0, 2), (0, 1)))
        lines.clear()
        self.same(board_of(3, lines), ((), (), ()))
        lines.append((5, 5))
        self.refused(NoBoard, board_of, 3, lines)
        self.same(board, ((1,), (0, 2), (1,)))


class NoBoardTest(Case):
    def test_how_many_points_there_are(self):
        for many in (0, 37, 38, 100, -1, -36, GREAT, -GREAT, 2.0) + NO_NUMBERS:
            for lines in ([], [(0, 1)], None):
                self.refused(NoBoard, board_of, many, lines)

    def test_lines_that_are_no_list(self):
        for lines in ((), ((0, 1),), None, True, False, 0, 1, "", "01", {}, {(0, 1): True}, {(0, 1)}, 1.5):
            self.refused(NoBoard, board_of, 3, lines)
        self.refused(NoBoard, board_of, 3, iter([(0, 1)]))

    def refused_everywhere(self, many, line):
        good = [(0, 1), (1, 2)]
        for place in range(3):
            self.refused(NoBoard, board_of, many, good[:place] + [line] + good[place:])
        self.refused(NoBoard, board_of, many, [line])

    def test_a_line_that_is_no_tuple_of_two(self):
        for line in ([0, 2], None, True, False, 0, 2, 1.5, "", "02", "0 2", {0: 2}, {0, 2}, {0: 1, 2: 3}):
            self.refused_everywhere(4, line)
        for line in ((), (0,), (0, 2, 3), (0, 2, 0), ((0, 2),), ((0, 2), (0, 3))):
            self.refused_everywhere(4, line)

    def test_a_point_with_itself(self):
        for many in (3, 4, 36):
            for point in (0, 2, many - 1):
                self.refused_everywhere(many, (point, point))
        self.refused(NoBoard, board_of, 1, [(0, 0)])

    def test_a_point_that_the_board_has_not(self):
        for many in (3, 4, 35, 36):
            for point in (many, many + 1, -1, -2, -many, 1 - many, GREAT, -GREAT):
                self.refused_everywhere(many, (0, point))
                self.refused_everywhere(many, (point, 0))
        self.refused(NoBoard, board_of, 1, [(0, 1)])

    def test_a_point_that_is_no_number(self):
        for point in NO_NUMBERS + (0.0, 2.0, "2", [2], (2,), {2: 3}):
            self.refused_everywhere(4, (3, point))
            self.refused_everywhere(4, (point, 3))
            self.refused_everywhere(4, (point, point))

    def test_a_line_twice(self):
        for again in ((0, 1), (1, 0), (1, 2), (2, 1)):
            for place in range(3):
                lines = [(0, 1), (1, 2)]
                lines.insert(place, again)
                self.refused(NoBoard, board_of, 4, lines)
        ring = [(p, (p + 1) % 36) for p in range(36)]
        for line in ring:
            self.refused(NoBoard, board_of, 36, ring + [line])
            self.refused(NoBoard, board_of, 36, ring + [line[::-1]])


class GridTest(Case):
    def test_all_sizes(self):
        for wide in range(1, 7):
            for high in range(1, 7):
                self.asks(grid_board(wide, high), grid, wide, high)

    def test_a_grid_that_is_wider_than_high(self):
        self.asks(((1, 3), (0, 2, 4), (1, 5), (0, 4), (1, 3, 5), (2, 4)), grid, 3, 2)
        self.asks(((1, 2), (0, 3), (0, 3, 4), (1, 2, 5), (2, 5), (3, 4)), grid, 2, 3)

    def test_other_sizes(self):
        for size in (0, 7, 8, 36, -1, -6, GREAT, -GREAT) + NO_NUMBERS:
            for good in range(1, 7):
                self.refused(NoBoard, grid, size, good)
                self.refused(NoBoard, grid, good, size)
            self.refused(NoBoard, grid, size, size)
            self.refused(NoBoard, grid, size, None)
            self.refused(NoBoard, grid, "3", size)


class PartsTest(Case):
    def test_one_part(self):
        self.asks([[0]], parts, ((),))
        self.asks([[0, 1, 2, 3]], parts, joined(4, [(0, 3), (3, 1), (1, 2)]))
        self.asks([list(range(36))], parts, grid_board(6, 6))

    def test_several_parts(self):
        self.asks([[0, 4], [1, 3], [2]], parts, joined(5, [(4, 0), (3, 1)]))
        self.asks([[0, 5], [1, 2, 4], [3]], parts, joined(6, [(0, 5), (4, 1), (4, 2)]))

    def test_points_by_themselves(self):
        for many in (1, 2, 11, 36):
            self.asks([[p] for p in range(many)], parts, ((),) * many)

    def test_parts_that_only_a_long_way_joins(self):
        evens = [(p, p + 2) for p in range(0, 34, 2)]
        odds = [(p, p - 2) for p in range(35, 1, -2)]
        board = joined(36, evens + odds)
        self.asks([list(range(0, 36, 2)), list(range(1, 36, 2))], parts, board)

    def test_all_boards_of_up_to_four_points(self):
        for board in small_boards(4):
            self.asks(slow_patches(board, [0] * len(board)), parts, board)

    def test_what_was_told_is_the_askers_own(self):
        board = grid(2, 2)
        told = parts(board)
        spoil(told)
        self.same(parts(board), [[0, 1, 2, 3]])
        self.same(board, ((1, 2), (0, 3), (0, 3), (1, 2)))


if __name__ == "__main__":
    unittest.main()
