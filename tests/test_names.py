import itertools
import random
import unittest

from stonebreath.boards import board_of, grid, parts
from stonebreath.chases import chase
from stonebreath.counts import by_land, by_stones
from stonebreath.ends import raced, worked
from stonebreath.errors import Again, NoBreath, NoLay, Over, TooMuch
from stonebreath.games import Game
from stonebreath.lays import laid
from stonebreath.names import exchanged, named_board, named_points, named_stand
from stonebreath.rows import breaths, is_sound, is_stand, lands, patch, rows, sides
from stonebreath.safety import closes, holds, safe, taking
from tests.helping import (
    Case, chance_boards, chance_stand, exchanged_stand, grid_board, joined, path_board, picture, renamed_board,
    renamed_stand, slow_laid, slow_other, small_boards, some_stands, sound_stands,
)


def inverse(order):
    return tuple(order.index(point) for point in range(len(order)))


def named_lists(lists, order):
    return sorted(named_points(points, order) for points in lists)


def named_deed(what, order):
    return what if what is None else order[what]


def orders(many):
    return itertools.permutations(range(many))


class NamesTest(Case):
    def test_a_point_becomes_that_of_its_place_in_the_order(self):
        order = (2, 0, 1, 3)
        self.asks([2], named_points, [0], order)
        self.asks([0], named_points, [1], order)
        self.asks([1], named_points, [2], order)
        self.asks([3], named_points, [3], order)
        self.asks([], named_points, [], order)
        self.asks([1, 2], named_points, [0, 2], order)
        self.asks([0, 1, 2, 3], named_points, [0, 1, 2, 3], order)

    def test_a_stand(self):
        self.asks((1, 0, 2), named_stand, (2, 1, 0), (2, 0, 1))
        self.asks((0, 2, 1, 0), named_stand, (2, 0, 0, 1), (1, 0, 3, 2))
        self.asks((0,), named_stand, (0,), (0,))
        self.asks((0,) * 35 + (1,), named_stand, (1,) + (0,) * 35, tuple(reversed(range(36))))

    def test_a_board(self):
        self.asks(((),), named_board, ((),), (0,))
        self.asks(((1, 2), (0,), (0,)), named_board, path_board(3), (1, 0, 2))
        self.asks(((1,), (0,), ()), named_board, joined(3, [(1, 2)]), (2, 0, 1))
        self.asks(grid_board(3, 2), named_board, grid(3, 2), (2, 1, 0, 5, 4, 3))
        self.asks(grid_board(2, 3), named_board, grid(3, 2), (0, 2, 4, 1, 3, 5))

    def test_stands_that_are_not_sound(self):
        self.asks((1, 2), named_stand, (2, 1), (1, 0))
        self.asks((2, 2), exchanged, (1, 1))

    def test_hands_exchanged(self):
        self.asks((0,), exchanged, (0,))
        self.asks((0, 2, 1), exchanged, (0, 1, 2))
        self.asks((2, 2, 0, 1), exchanged, (1, 1, 0, 2))
        for stand in itertools.product((0, 1, 2), repeat=4):
            self.asks(exchanged_stand(stand), exchanged, stand)
            self.asks(stand, exchanged, exchanged(stand))

    def test_all_orders_of_small_boards(self):
        for board in small_boards(4):
            for order in orders(len(board)):
                self.asks(renamed_board(board, order), named_board, board, order)
        for order in orders(4):
            for stand in some_stands(path_board(4), 1):
                self.asks(renamed_stand(stand, order), named_stand, stand, order)
            for many in range(5):
                for some in itertools.combinations(range(4), many):
                    self.asks(sorted(order[point] for point in some), named_points, list(some), order)

    def test_an_order_and_its_inverse(self):
        chance = random.Random(1)
        for board in [grid(6, 6), grid(4, 3), path_board(7)] + list(chance_boards(1, 9, 20, 10, 60)):
            many = len(board)
            order = tuple(chance.sample(range(many), many))
            stand = tuple(chance.choices((0, 1, 2), k=many))
            some = sorted(chance.sample(range(many), many // 2))
            self.same(named_board(named_board(board, order), inverse(order)), board)
            self.same(named_stand(named_stand(stand, order), inverse(order)), stand)
            self.same(named_points(named_points(some, order), inverse(order)), some)
            self.same(named_stand(exchanged(stand), order), exchanged(named_stand(stand, order)))
            self.same(named_board(board, tuple(range(many))), board)
            self.same(named_stand(stand, tuple(range(many))), stand)

    def test_one_order_behind_the_other(self):
        chance = random.Random(2)
        board, stand = grid(4, 3), picture("x.o.", ".xx.", "o..o")
        for time in range(20):
            one, other = (tuple(chance.sample(range(12), 12)) for which in (1, 2))
            both = tuple(other[one[point]] for point in range(12))
            self.same(named_board(named_board(board, one), other), named_board(board, both))
            self.same(named_stand(named_stand(stand, one), other), named_stand(stand, both))

    def test_what_is_told_is_a_board_and_a_stand(self):
        chance = random.Random(3)
        for board in chance_boards(2, 20, 9, 5, 20):
            order = tuple(chance.sample(range(9), 9))
            lines = [tuple(sorted((order[p], order[q]))) for p in range(9) for q in board[p] if p < q]
            self.same(named_board(board, order), board_of(9, lines))
            self.same(is_stand(board, named_stand(chance_stand(chance, board, 6), order)), True)


class Other:
    """A board and a stand as they are called otherwise: by an order, and with hands exchanged or not."""

    def __init__(self, board, order, swaps):
        self.order, self.swaps, self.board = order, swaps, named_board(board, order)

    def stand(self, stand):
        stand = named_stand(stand, self.order)
        return exchanged(stand) if self.swaps else stand

    def hand(self, hand):
        return slow_other(hand) if self.swaps else hand

    def hands(self, hands):
        return sorted(self.hand(hand) for hand in hands)

    def pair(self, pair):
        return pair[::-1] if self.swaps else pair

    def points(self, points):
        return named_points(points, self.order)

    def lists(self, lists):
        return named_lists(lists, self.order)

    def point(self, point):
        return named_deed(point, self.order)

    def worth(self, worth):
        return -worth if self.swaps else worth


def asked_or_refused(call, *given):
    """The answer, or the class of the refusal."""
    try:
        return call(*given)
    except (NoLay, NoBreath, TooMuch, Over) as e:
        return type(e)


class AllAnswersTest(Case):
    """[3]: points given other names, or hands exchanged, all answers are so exchanged."""

    def cases(self, seed, boards, fullnesses):
        chance = random.Random(seed)
        for board in boards:
            for fullness in fullnesses:
                stand = chance_stand(chance, board, fullness)
                for swaps in (False, True):
                    order = tuple(chance.sample(range(len(board)), len(board)))
                    other = Other(board, order, swaps)
                    yield board, stand, other, other.board, other.stand(stand)

    def some_boards(self):
        boards = [path_board(1), path_board(2), path_board(6), grid_board(3, 3), grid_board(4, 3), grid_board(5, 5)]
        return boards + list(chance_boards(31, 12, 9, 6, 20))

    def test_patches_rows_lands_breaths_and_sides(self):
        for board, stand, other, board_2, stand_2 in self.cases(1, self.some_boards(), (3, 6, 9)):
            self.same(parts(board_2), other.lists(parts(board)))
            self.same(rows(board_2, stand_2), other.lists(rows(board, stand)))
            self.same(lands(board_2, stand_2), other.lists(lands(board, stand)))
            self.same(is_sound(board_2, stand_2), True)
            for point in range(len(board)):
                self.same(patch(board_2, stand_2, other.point(point)), other.points(patch(board, stand, point)))
            for row in rows(board, stand):
                self.same(breaths(board_2, stand_2, other.points(row)), other.points(breaths(board, stand, row)))
            for land in lands(board, stand):
                self.same(sides(board_2, stand_2, other.points(land)), other.hands(sides(board, stand, land)))

    def test_stands_that_are_not_sound(self):
        for board in small_boards(3):
            for stand, order in itertools.product(some_stands(board, 1), orders(len(board))):
                for swaps in (False, True):
                    other = Other(board, order, swaps)
                    self.same(is_sound(other.board, other.stand(stand)), is_sound(board, stand))
                    self.same(rows(other.board, other.stand(stand)), other.lists(rows(board, stand)))

    def test_lays(self):
        for board, stand, other, board_2, stand_2 in self.cases(2, self.some_boards(), (4, 8, 10)):
            for hand, point in itertools.product((1, 2), range(len(board))):
                told = asked_or_refused(laid, board, stand, hand, point)
                if isinstance(told, tuple):
                    told = (other.stand(told[0]), other.points(told[1]))
                self.same(asked_or_refused(laid, board_2, stand_2, other.hand(hand), other.point(point)), told)

    def test_counts(self):
        for board, stand, other, board_2, stand_2 in self.cases(3, self.some_boards(), (3, 6, 9)):
            self.same(by_stones(board_2, stand_2), other.pair(by_stones(board, stand)))

    def test_games(self):
        chance = random.Random(13)
        boards = [path_board(3), grid_board(3, 2), grid_board(4, 3)] + list(chance_boards(33, 4, 6, 6, 12))
        for board, stand, other, board_2, stand_2 in self.cases(4, boards, (0, 5)):
            for rule, hand in itertools.product(("stones", "turns"), (1, 2)):
                one, two = Game(board, rule, stand, hand), Game(board_2, rule, stand_2, other.hand(hand))
                while one.ended() is None and len(one.deeds()) < 40:
                    self.same_games(one, two, other)
                    what = chance.choice(one.open_deeds()[:-1] or [None])
                    one.deed(what)
                    two.deed(other.point(what))
                self.same_games(one, two, other)

    def same_games(self, one, two, other):
        self.same(two.stands(), [other.stand(stand) for stand in one.stands()])
        self.same(two.deeds(), [other.point(what) for what in one.deeds()])
        self.same(two.hand(), other.hand(one.hand()))
        self.same((two.ended(), two.rule()), (one.ended(), one.rule()))
        lays = other.points([what for what in one.open_deeds() if what is not None])
        self.same(two.open_deeds(), lays + one.open_deeds()[-1:])
        self.same(by_land(two), other.pair(by_land(one)))
        self.same((two.lost(other.hand(1)), two.lost(other.hand(2))), (one.lost(1), one.lost(2)))
        for what in range(len(one.board())):
            self.same(self.refusal(two, other.point(what)), self.refusal(one, what))

    def refusal(self, game, what):
        try:
            game.deed(what)
        except (NoLay, NoBreath, Over) as e:
            return type(e)
        except Again as e:
            return (Again, e.number)
        game.back()
        return None

    def test_closes_and_safe_rows(self):
        met = 0
        for board, stand, other, board_2, stand_2 in self.cases(5, self.some_boards(), (4, 7, 9, 10)):
            for hand in (1, 2):
                hand_2 = other.hand(hand)
                self.same(closes(board_2, stand_2, hand_2), other.lists(closes(board, stand, hand)))
                paper = safe(board, stand, hand)
                self.same(safe(board_2, stand_2, hand_2), tuple(other.lists(lists) for lists in paper))
                met += len(paper[0]) > 0
                everything = ([row for row in rows(board, stand) if stand[row[0]] == hand], closes(board, stand, hand))
                for some in (paper, everything, ([], paper[1]), (paper[0], [])):
                    some_2 = tuple(other.lists(lists) for lists in some)
                    self.same(holds(board_2, stand_2, hand_2, some_2), holds(board, stand, hand, some))
        self.assertGreater(met, 9)

    def test_takings(self):
        # Which one is told is free: so each is gone through by the other names.
        for board, stand, other, board_2, stand_2 in self.cases(6, self.some_boards(), (4, 7, 10)):
            for point in [point for point in range(len(board)) if stand[point] != 0]:
                told, told_2 = taking(board, stand, point), taking(board_2, stand_2, other.point(point))
                self.same(told_2 is None, told is None)
                if told is not None:
                    self.takes(board_2, stand_2, other.point(point), [other.point(lay) for lay in told])
                    self.takes(board_2, stand_2, other.point(point), told_2)

    def takes(self, board, stand, point, lays):
        hand = slow_other(stand[point])
        for lay in lays:
            self.assertNotEqual(stand[point], 0)
            stand = slow_laid(board, stand, hand, lay)[0]
        self.same(stand[point], 0)

    def test_chases(self):
        met = {}
        boards = [grid_board(4, 4), grid_board(4, 4), grid_board(4, 3)] + list(chance_boards(35, 6, 12, 12, 22))
        for board, stand, other, board_2, stand_2 in self.cases(7, boards, (3, 7)):
            for row in rows(board, stand):
                hunter, point = slow_other(stand[row[0]]), row[-1]
                for most in (1, 3, 4):
                    word = chase(board, stand, hunter, point, most)[0]
                    met[word] = met.get(word, 0) + 1
                    self.same(chase(board_2, stand_2, other.hand(hunter), other.point(point), most)[0], word)
        self.assertGreater(min(met.values()), 9)

    def test_ends_and_races(self):
        met = {}
        boards = [path_board(4), grid_board(3, 2), grid_board(3, 3)] + list(chance_boards(36, 4, 7, 7, 14))
        for board, stand, other, board_2, stand_2 in self.cases(8, boards, (4, 9)):
            stones = [[point for point in range(len(board)) if stand[point] == hand] for hand in (1, 2)]
            for hand, deeds in itertools.product((1, 2), range(7)):
                told = asked_or_refused(worked, board, stand, hand, deeds)
                told_2 = asked_or_refused(worked, board_2, stand_2, other.hand(hand), deeds)
                self.same_worth(told, told_2, other)
                met[("end", told is TooMuch)] = met.get(("end", told is TooMuch), 0) + 1
                if stones[0] and stones[1]:
                    pair = (stones[0][0], stones[1][-1])
                    pair_2 = other.pair(tuple(other.point(point) for point in pair))
                    told = asked_or_refused(raced, board, stand, hand, *pair, deeds)
                    told_2 = asked_or_refused(raced, board_2, stand_2, other.hand(hand), *pair_2, deeds)
                    self.same_worth(told, told_2, other)
                    worth = told if told is TooMuch else told[0]
                    met[("race", worth)] = met.get(("race", worth), 0) + 1
        self.assertEqual(len(met), 6, met)

    def same_worth(self, told, told_2, other):
        if told is TooMuch:
            self.assertIs(told_2, TooMuch)
        else:
            self.same(told_2[0], other.worth(told[0]))

    def test_all_orders_of_small_ones(self):
        for board in small_boards(3):
            for stand, order in itertools.product(sound_stands(board), orders(len(board))):
                for swaps in (False, True):
                    other = Other(board, order, swaps)
                    board_2, stand_2 = other.board, other.stand(stand)
                    self.same(by_stones(board_2, stand_2), other.pair(by_stones(board, stand)))
                    for hand in (1, 2):
                        papers = tuple(other.lists(lists) for lists in safe(board, stand, hand))
                        self.same(safe(board_2, stand_2, other.hand(hand)), papers)
                        worth = other.worth(worked(board, stand, hand, 3)[0])
                        self.same(worked(board_2, stand_2, other.hand(hand), 3)[0], worth)


if __name__ == "__main__":
    unittest.main()
