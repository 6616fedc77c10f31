import random
import unittest

from stonebreath.counts import by_land, by_stones
from stonebreath.games import Game
from tests.helping import (
    Case, chance_boards, exchanged_stand, grid_board, joined, path_board, picture, renamed_board,
    renamed_stand, slow_lands, slow_sides, small_boards, sound_stands,
)


def slow_land(board, stand, hand):
    """How many points the lands have that have just this hand as side."""
    return sum(len(land) for land in slow_lands(board, stand) if slow_sides(board, stand, land) == [hand])


def slow_by_stones(board, stand):
    return tuple(sum(what == hand for what in stand) + slow_land(board, stand, hand) for hand in (1, 2))


def game_of(board, rule, stand, hand, deeds):
    game = Game(board, rule, stand, hand)
    for what in deeds:
        game.deed(what)
    return game


class ByStonesTest(Case):
    def test_lands_of_no_side(self):
        self.asks((0, 0), by_stones, ((),), (0,))
        self.asks((0, 0), by_stones, grid_board(6, 6), (0,) * 36)
        self.asks((2, 0), by_stones, joined(4, [(0, 1)]), (1, 0, 0, 0))

    def test_lands_of_one_side(self):
        self.asks((5, 0), by_stones, path_board(5), (0, 0, 1, 0, 0))
        self.asks((0, 5), by_stones, path_board(5), (0, 0, 2, 0, 0))
        self.asks((36, 0), by_stones, grid_board(6, 6), (0,) * 35 + (1,))
        self.asks((3, 2), by_stones, path_board(5), (0, 0, 1, 2, 0))

    def test_lands_of_both_sides(self):
        self.asks((2, 1), by_stones, path_board(5), (0, 1, 0, 0, 2))
        self.asks((1, 1), by_stones, path_board(3), (1, 0, 2))
        self.asks((5, 5), by_stones, grid_board(4, 4), picture(".x.o", "xx.o", "...o", "x.oo"))

    def test_parts_apart(self):
        board = joined(9, [(0, 1), (1, 2), (3, 4), (5, 6), (7, 8)])
        self.asks((3, 3), by_stones, board, (1, 0, 2, 0, 1, 2, 0, 0, 0))
        self.asks((5, 4), by_stones, board, (1, 0, 0, 1, 0, 2, 0, 0, 2))
        self.asks((0, 2), by_stones, board, (0, 0, 0, 0, 0, 0, 2, 0, 0))

    def test_all_small_ones(self):
        for board in small_boards(4):
            for stand in sound_stands(board):
                self.asks(slow_by_stones(board, stand), by_stones, board, stand)

    def test_some_of_greater_boards(self):
        boards = [path_board(6), grid_board(3, 3)] + list(chance_boards(1, 5, 8, 3, 14))
        for board in boards:
            for stand in sound_stands(board, 31):
                self.asks(slow_by_stones(board, stand), by_stones, board, stand)

    def test_other_names_and_hands_exchanged(self):
        order = (4, 0, 7, 2, 8, 6, 1, 3, 5)
        board = grid_board(3, 3)
        for stand in sound_stands(board, 53):
            told = by_stones(board, stand)
            self.same(by_stones(renamed_board(board, order), renamed_stand(stand, order)), told)
            self.same(by_stones(board, exchanged_stand(stand)), told[::-1])


class ByLandTest(Case):
    def test_at_the_begin_only_lands_count(self):
        board = joined(6, [(0, 1), (2, 3), (4, 5)])
        for hand in (1, 2):
            self.asks((1, 2), by_land, Game(path_board(5), "turns", (0, 1, 2, 0, 0), hand))
            self.asks((1, 1), by_land, Game(board, "stones", (0, 1, 2, 0, 0, 0), hand))
            self.asks((0, 0), by_land, Game(board, "stones", (0,) * 6, hand))
            self.asks((0, 0), by_land, Game(path_board(3), "stones", (1, 0, 2), hand))

    def test_lost_stones_count_for_the_other_hand(self):
        game = game_of(path_board(5), "stones", (1, 1, 0, 1, 1), 2, [2])
        self.asks((0, 8), by_land, game)
        game.back()
        self.asks((1, 0), by_land, game)
        game = game_of(path_board(5), "stones", (2, 2, 0, 2, 2), 1, [2])
        self.asks((8, 0), by_land, game)

    def test_stones_of_both_hands_are_lost(self):
        game = game_of(path_board(3), "turns", (0, 0, 0), 1, [0, 2, 1, 2, 0])
        self.same([game.lost(1), game.lost(2)], [2, 1])
        self.same(game.stand(), (1, 0, 2))
        self.asks((1, 2), by_land, game)

    def test_the_game_is_not_changed(self):
        game = game_of(path_board(5), "stones", (1, 1, 0, 1, 1), 2, [2])
        ahead = repr((game.stands(), game.deeds(), game.hand(), game.lost(1), game.open_deeds()))
        by_land(game)
        self.assertEqual(repr((game.stands(), game.deeds(), game.hand(), game.lost(1), game.open_deeds())), ahead)

    def checks(self, game):
        """By land as the words tell it, and the difference that [13] tells."""
        board, stand = game.board(), game.stand()
        wanted = (
            slow_land(board, stand, 1) + game.lost(2),
            slow_land(board, stand, 2) + game.lost(1),
        )
        self.asks(wanted, by_land, game)
        stones, land = by_stones(board, stand), by_land(game)
        begin, first = game.begin()
        own = {hand: begin.count(hand) for hand in (1, 2)}
        for number, what in enumerate(game.deeds()):
            if what is not None:
                own[first if number % 2 == 0 else 3 - first] += 1
        self.same((stones[0] - stones[1]) - (land[0] - land[1]), own[1] - own[2])

    def test_the_difference_in_games_with_deeds_taken_back(self):
        chance = random.Random(3)
        apart = joined(9, [(0, 1), (1, 2), (2, 0), (3, 4), (4, 5), (5, 6), (7, 8)])
        for board, stand in (
            (grid_board(3, 3), (0,) * 9), (grid_board(4, 4), (0,) * 16), (path_board(5), (0, 2, 0, 1, 0)),
            (apart, (0,) * 9), (apart, (1, 0, 0, 2, 0, 1, 0, 0, 0)),
        ):
            for rule in ("stones", "turns"):
                game = Game(board, rule, stand, chance.choice((1, 2)))
                for time in range(60):
                    if game.ended() or game.deeds() and chance.randrange(5) == 0:
                        game.back()
                    else:
                        game.deed(chance.choice(game.open_deeds()))
                    self.checks(game)


if __name__ == "__main__":
    unittest.main()
