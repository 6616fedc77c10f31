import itertools
import random
import unittest

from stonebreath.boards import grid
from stonebreath.chases import chase
from stonebreath.errors import TooMuch
from tests.helping import (
    Case, chance_boards, chance_stand, exchanged_stand, grid_board, joined, path_board, picture, renamed_board,
    renamed_stand, slow_breaths, slow_lays, slow_other, slow_rows, small_boards, sound_stands,
)


class Walk:
    """Goes through a web against all that the other hand can do, straight by the words of [17] and [18]."""

    def __init__(self, board, hunter, point, most, word, web):
        self.board, self.hunter, self.point, self.most = board, hunter, point, most
        self.own = "hunter" if word == "caught" else "runner"
        self.web = dict(web)
        self.used = []
        self.ends = []

    def breaths(self, stand):
        row = [row for row in slow_rows(self.board, stand) if self.point in row][0]
        return slow_breaths(self.board, stand, row)

    def hunter_can(self, came):
        lays = slow_lays(self.board, came[-1], self.hunter)
        return {
            point: behind for point, behind in lays.items()
            if point in self.breaths(came[-1]) and behind not in came
            and (behind[self.point] == 0 or len(self.breaths(behind)) <= 1)
        }

    def runner_can(self, came):
        lays = slow_lays(self.board, came[-1], slow_other(self.hunter))
        can = {point: behind for point, behind in lays.items() if behind not in came}
        return {**can, None: came[-1]}

    def picked(self, side, can, deeds):
        if side != self.own:
            return can
        self.used.append(deeds)
        return {self.web[deeds]: can[self.web[deeds]]}

    def hunts(self, came, deeds, lays):
        can = self.hunter_can(came)
        if len(self.breaths(came[-1])) >= 3 or not can:
            self.ends.append("free")
            return
        for what, behind in self.picked("hunter", can, deeds).items():
            if behind[self.point] == 0:
                self.ends.append("caught")
            elif lays + 1 == self.most:
                self.ends.append("free")
            else:
                self.runs(came + [behind], deeds + (what,), lays + 1)

    def runs(self, came, deeds, lays):
        for what, behind in self.picked("runner", self.runner_can(came), deeds).items():
            self.hunts(came + [behind], deeds + (what,), lays)


def rank(entry):
    """Sorts as [18] tells: None is greater than any point."""
    return tuple(99 if what is None else what for what in entry[0])


class ChaseCase(Case):
    def goes_through(self, board, stand, point, most):
        """The word, behind a walk that shows that the winner's web leads to it; so the other one can't keep more."""
        hunter = slow_other(stand[point])
        told = self.asked(chase, board, stand, hunter, point, most)
        given = (board, stand, point, most, told)
        self.assertIsInstance(told, tuple)
        word, web = told
        self.assertIn(word, ("caught", "free"))
        self.assertIsInstance(web, list)
        for entry in web:
            self.assertTrue(type(entry) is tuple and len(entry) == 2 and type(entry[0]) is tuple, given)
        self.assertEqual(web, sorted(web, key=rank), given)
        walk = Walk(board, hunter, point, most, word, web)
        walk.hunts([stand], (), 0)
        self.assertEqual(set(walk.ends), {word}, given)
        self.assertEqual([entry[0] for entry in web], sorted(walk.used, key=lambda deeds: rank((deeds,))), given)
        return word

    def words(self, board, stand, point):
        return [self.goes_through(board, stand, point, most) for most in range(1, 6)]


class ChaseTest(ChaseCase):
    def test_taken_by_the_first_lay(self):
        for most in range(1, 6):
            self.asks(("caught", [((), 1)]), chase, path_board(3), (1, 0, 0), 2, 0, most)
            self.asks(("caught", [((), 1)]), chase, path_board(3), (2, 0, 0), 1, 0, most)

    def test_three_breaths_or_more_at_the_begin(self):
        board = grid_board(4, 4)
        for most in range(1, 6):
            self.asks(("free", []), chase, board, picture("....", "x...", "....", "...."), 2, 4, most)
            self.asks(("free", []), chase, board, picture("....", "....", "..o.", "...."), 1, 10, most)
            self.asks(("free", []), chase, board, picture("xx..", "....", "....", "...."), 2, 1, most)

    def test_the_hunter_can_do_no_deed_at_the_begin(self):
        for most in range(1, 6):
            self.asks(("free", []), chase, path_board(3), (0, 1, 0), 2, 1, most)
            self.asks(("free", []), chase, path_board(5), (0, 2, 0, 2, 0), 1, 3, most)

    def test_free_at_once_behind_the_last_lay(self):
        self.asks(("free", []), chase, grid_board(4, 4), picture("x...", "....", "....", "...."), 2, 0, 1)

    def test_each_number_of_lays(self):
        board = grid_board(4, 4)
        for many, point, stand in (
            (1, 14, picture("....", "....", "..o.", "..xo")), (2, 13, picture("....", "....", ".o..", ".x..")),
            (3, 12, picture("....", ".o..", "....", "x...")), (4, 3, picture("...x", "....", "....", "x...")),
            (5, 13, picture("....", "o...", "....", "ox..")), (6, 2, picture("..xo", "....", "....", "....")),
            (6, 2, picture("x.x.", "x.o.", "..oo", "....")),
        ):
            wanted = ["free"] * (many - 1) + ["caught"] * (6 - many)
            self.same(self.words(board, stand, point), wanted)
            self.same(self.words(board, exchanged_stand(stand), point), wanted)

    def test_a_number_of_lays_somewhat_beyond(self):
        self.asks(("free", []), chase, path_board(3), (1, 0, 0), 2, 0, 0)
        board, stand = grid_board(4, 4), picture("x.x.", "x.o.", "..oo", "....")
        self.same(self.goes_through(board, stand, 2, 6), "caught")
        self.same(self.goes_through(board, stand, 2, 7), "caught")

    def test_the_hunter_is_barred_by_a_stand_that_came(self):
        stand = (0, 0, 1, 0)
        self.asks(("free", [((1,), 0)]), chase, path_board(4), stand, 2, 2, 3)
        self.same(self.words(path_board(4), stand, 2), ["free"] * 5)

    def test_the_runner_is_barred_by_the_begin(self):
        stand = (0, 1, 0, 1)
        for most in range(2, 6):
            self.asks(("caught", [((), 2), ((2, None), 0)]), chase, path_board(4), stand, 2, 1, most)
        self.same(self.words(path_board(4), stand, 1), ["free"] + ["caught"] * 4)

    def test_a_pass_comes_behind_all_points_in_a_web(self):
        word, web = chase(grid(4, 4), picture("....", "....", ".o..", ".x.."), 2, 13, 2)
        self.same(word, "caught")
        self.same(web[0][0], ())
        answers = [deeds[1] for deeds, deed in web[1:]]
        self.same(answers[-1], None)
        self.same(answers[:-1], sorted(answers[:-1]))
        self.assertGreater(len(answers), 9)

    def test_all_small_ones(self):
        met = {"caught": 0, "free": 0}
        for board in small_boards(4):
            for stand in sound_stands(board):
                for row in slow_rows(board, stand):
                    for most in (1, 2, 5):
                        met[self.goes_through(board, stand, row[-1], most)] += 1
        self.assertGreater(min(met.values()), 100)

    def test_some_of_greater_boards(self):
        chance = random.Random(2)
        boards = [grid_board(4, 4), grid_board(5, 3), grid_board(4, 3), path_board(9)]
        boards += list(chance_boards(7, 12, 16, 16, 34)) + list(chance_boards(8, 6, 9, 8, 14))
        met = {}
        for board in boards:
            for fullness in (2, 4, 6, 7, 8, 9):
                stand = chance_stand(chance, board, fullness)
                for row in slow_rows(board, stand):
                    if len(slow_breaths(board, stand, row)) <= 2 or chance.randrange(4) == 0:
                        words = tuple(self.words(board, stand, chance.choice(row)))
                        met[words] = met.get(words, 0) + 1
        # More lays are never worse for the hunter.
        for words in met:
            self.same(list(words), sorted(words, reverse=True))
        self.assertGreaterEqual(len(met), 4, met)

    def test_all_stands_of_two_stones_on_a_grid(self):
        board = grid_board(4, 4)
        for point, other in itertools.product((0, 1), range(16)):
            if point != other:
                stand = tuple(1 if p == point else 2 if p == other else 0 for p in range(16))
                self.words(board, stand, point)

    def test_other_names_and_hands_exchanged(self):
        chance = random.Random(4)
        for board in [grid_board(4, 4)] * 6 + list(chance_boards(9, 8, 12, 12, 22)):
            stand = chance_stand(chance, board, 7)
            order = tuple(chance.sample(range(len(board)), len(board)))
            for row in slow_rows(board, stand):
                point, most = row[0], chance.choice((2, 3, 5))
                hunter = slow_other(stand[point])
                word = chase(board, stand, hunter, point, most)[0]
                renamed = (renamed_board(board, order), renamed_stand(stand, order))
                self.same(chase(*renamed, hunter, order[point], most)[0], word)
                self.same(chase(board, exchanged_stand(stand), slow_other(hunter), point, most)[0], word)
                for spot in row:
                    self.same(chase(board, stand, hunter, spot, most)[0], word)


class TooMuchTest(ChaseCase):
    def test_more_than_sixteen_points(self):
        for many in (17, 18, 25, 36):
            stand = (1,) + (0,) * (many - 1)
            for most in range(1, 6):
                self.refused(TooMuch, chase, path_board(many), stand, 2, 0, most)
                self.refused(TooMuch, chase, path_board(many), exchanged_stand(stand), 1, 0, most)
        self.refused(TooMuch, chase, grid_board(6, 3), (0,) * 7 + (1,) + (0,) * 10, 2, 7, 1)
        self.refused(TooMuch, chase, joined(17, [(15, 16)]), (0,) * 15 + (1, 0), 2, 15, 1)

    def test_sixteen_points_and_fewer(self):
        for many in (2, 15, 16):
            stand = (1,) + (0,) * (many - 1)
            self.asks(("caught", [((), 1)]), chase, path_board(many), stand, 2, 0, 1)
        self.same(self.words(grid_board(4, 4), (2,) + (0,) * 15, 0), ["free"] * 3 + ["caught"] * 2)


if __name__ == "__main__":
    unittest.main()
