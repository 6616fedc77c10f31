import functools
import itertools
import random
import unittest

from stonebreath.boards import grid
from stonebreath.ends import raced, worked
from stonebreath.errors import TooMuch
from tests.helping import (
    Case, chance_boards, chance_stand, exchanged_stand, grid_board, joined, path_board, picture, slow_lands, slow_lays,
    slow_other, slow_sides, slow_sound, small_boards, sound_stands,
)

MOST_ROWS = 500
HANDS = (1, 2)
# The same stands come over and over, with one more deed or by another order.
kept_lays = functools.lru_cache(maxsize=None)(slow_lays)


class Going:
    """An end, or a race with its two stones, straight by the words of [19] and [20]."""

    def __init__(self, board, stand, hand, deeds, racing=()):
        self.board, self.begin, self.first, self.most, self.racing = board, stand, hand, deeds, racing

    def turn(self, done):
        return self.first if len(done) % 2 == 0 else slow_other(self.first)

    def stopped(self, came, done):
        if len(done) >= self.most or any(came[-1][stone] == 0 for stone in self.racing):
            return True
        return len(done) >= 2 and done[-1] is None and done[-2] is None

    def can(self, came, done):
        """What can be done, with the stand behind; nothing behind a stop."""
        if self.stopped(came, done):
            return {}
        lays = kept_lays(self.board, came[-1], self.turn(done))
        return {**{point: behind for point, behind in lays.items() if behind not in came}, None: came[-1]}

    def worth(self, stand):
        if self.racing:
            one, other = self.racing
            return (stand[other] == 0) - (stand[one] == 0)
        worth = stand.count(1) - stand.count(2)
        for land in slow_lands(self.board, stand):
            sides = slow_sides(self.board, stand, land)
            worth += len(land) * ((sides == [1]) - (sides == [2]))
        return worth

    def rows(self, most=10 ** 6):
        """All rows of deeds, or the first so many of them."""
        found, waiting = [], [([self.begin], ())]
        while waiting and len(found) < most:
            came, done = waiting.pop()
            found.append(done)
            waiting += [(came + [behind], done + (what,)) for what, behind in self.can(came, done).items()]
        return found

    def walk(self, hand, web):
        """The worths to which the web leads, and the places of it that are come to."""
        told, worths, used = dict(web), [], []
        waiting = [([self.begin], ())]
        while waiting:
            came, done = waiting.pop()
            can = self.can(came, done)
            if not can:
                worths.append(self.worth(came[-1]))
            elif self.turn(done) == hand:
                used.append(done)
                can = {told[done]: can[told[done]]}
            waiting += [(came + [behind], done + (what,)) for what, behind in can.items()]
        return worths, used


def rank(done):
    """Sorts as [18] tells: None is greater than any point."""
    return tuple(99 if what is None else what for what in done)


class EndCase(Case):
    def goes_through(self, board, stand, hand, deeds, racing=()):
        """The worth, or None where it is too much; each web is gone through: so neither hand can keep more."""
        self.assertTrue(slow_sound(board, stand))
        going = Going(board, stand, hand, deeds, racing)
        call, given = (raced, (board, stand, hand, *racing, deeds)) if racing else (worked, (board, stand, hand, deeds))
        if len(going.rows(MOST_ROWS + 1)) > MOST_ROWS:
            self.refused(TooMuch, call, *given)
            return None
        told = self.asked(call, *given)
        self.assertIs(type(told), tuple)
        self.assertEqual(len(told), 3)
        worth = told[0]
        self.assertIs(type(worth), int)
        for owner in HANDS:
            web = told[owner]
            self.assertIs(type(web), list)
            for entry in web:
                self.assertTrue(type(entry) is tuple and len(entry) == 2 and type(entry[0]) is tuple, (given, entry))
            worths, used = going.walk(owner, web)
            self.assertEqual([done for done, deed in web], sorted(used, key=rank), (given, owner))
            self.assertEqual(min(worths) if owner == 1 else max(worths), worth, (given, owner))
        return worth

    def worths(self, board, stand, hand, racing=()):
        return [self.goes_through(board, stand, hand, deeds, racing) for deeds in range(7)]


class WorkedTest(EndCase):
    def test_no_deeds(self):
        for hand in HANDS:
            self.asks((0, [], []), worked, ((),), (0,), hand, 0)
            self.asks((3, [], []), worked, path_board(3), (0, 1, 0), hand, 0)
            self.asks((-3, [], []), worked, path_board(3), (0, 2, 0), hand, 0)
            self.asks((0, [], []), worked, path_board(3), (1, 0, 2), hand, 0)
            self.asks((1, [], []), worked, path_board(5), (0, 1, 0, 0, 2), hand, 0)
            self.asks((36, [], []), worked, grid_board(6, 6), (0,) * 35 + (1,), hand, 0)

    def test_one_deed(self):
        # The stone on the one point takes that on the other; a pass would leave all to hand 1.
        self.asks((-2, [], [((), 0)]), worked, path_board(2), (0, 1), 2, 1)
        self.asks((2, [((), 0)], []), worked, path_board(2), (0, 2), 1, 1)
        # All that hand 1 could lay is refused, since its stone would have no breath.
        self.asks((-3, [((), None)], []), worked, path_board(3), (0, 2, 0), 1, 1)
        # A lay on 0 or on 2 changes nothing in the worth, nor does a pass.
        self.same(self.goes_through(path_board(3), (0, 1, 0), 1, 1), 3)

    def test_a_point_by_itself(self):
        passes = [((), None)]
        for deeds in (2, 3, 6):
            self.asks((0, passes, [((None,), None)]), worked, ((),), (0,), 1, deeds)
            self.asks((0, [((None,), None)], passes), worked, ((),), (0,), 2, deeds)
        self.asks((0, passes, []), worked, ((),), (0,), 1, 1)

    def test_a_stand_that_came_already_bars_a_lay(self):
        # Behind (0,) hand 1 would take back by a lay on 1: then the stand of the begin came again.
        board, stand = path_board(4), (0, 1, 2, 0)
        self.same(slow_lays(board, (2, 0, 2, 0), 1)[1], stand)
        for deeds in (2, 3):
            self.asks(-4, lambda: worked(board, stand, 2, deeds)[0])
            webs = worked(board, stand, 2, deeds)[1:]
            self.assertIn(((), 0), webs[1])
            self.assertIn(((0,), None), webs[0])
            self.assertNotIn((0, 1), [done for web in webs for done, deed in web])
        self.same(self.worths(board, stand, 2), [0] + [-4] * 6)
        self.same(self.worths(board, exchanged_stand(stand), 1), [0] + [4] * 6)

    def test_a_stand_that_is_not_the_begin_bars_too(self):
        # On two points the stands (1, 0) and (0, 2) would come by turns for ever.
        board = path_board(2)
        met = Going(board, (0, 0), 1, 6).rows()
        self.assertIn((0, 1, None), met)
        self.assertNotIn((0, 1, 0), met)
        for hand in HANDS:
            self.worths(board, (0, 0), hand)

    def test_the_stop_behind_two_passes(self):
        # Hand 1 can lay nowhere, and the worth is the best there is for hand 2: so both may pass at once.
        board, stand = path_board(3), (0, 2, 0)
        for deeds in range(2, 7):
            worth, web_1, web_2 = self.asked(worked, board, stand, 1, deeds)
            self.same(worth, -3)
            self.same(web_1[0], ((), None))
            self.assertFalse([done for done, deed in web_1 + web_2 if done[:2] == (None, None)])
        # A pass stops nothing where the one ahead of it wasn't the deed just ahead.
        worth, web_1, web_2 = worked(path_board(2), (0, 1), 1, 4)
        self.same((worth, web_1), (-2, [((), None), ((None, 0), None)]))
        self.same(web_2, [((None,), 0), ((None, 0, None), None)])

    def test_a_pass_by_itself_stops_nothing(self):
        # A pass of hand 1 leaves its stone to be taken; a lay would fill its own last breath, and is refused.
        self.asks((2, [((), None)], []), worked, path_board(2), (0, 1), 1, 1)
        self.asks((-2, [((), None)], [((None,), 0)]), worked, path_board(2), (0, 1), 1, 2)

    def test_a_pass_comes_behind_all_points_in_a_web(self):
        worth, web_1, web_2 = worked(grid(2, 2), (0, 0, 0, 0), 1, 3)
        self.same([done for done, deed in web_2], [(0,), (1,), (2,), (3,), (None,)])
        self.same([done for done, deed in web_1][0], ())
        answers = [done[1] for done, deed in web_1[1:]]
        self.same(answers[-1], None)
        self.same(answers[:-1], sorted(answers[:-1]))

    def test_more_deeds_than_six(self):
        for deeds in (7, 8):
            for hand in HANDS:
                self.goes_through(path_board(2), (0, 0), hand, deeds)
                self.goes_through(path_board(3), (0, 1, 0), hand, deeds)

    def test_all_small_ones(self):
        met = {}
        for board in small_boards(3):
            for stand in sound_stands(board):
                for hand in HANDS:
                    for worth in self.worths(board, stand, hand):
                        met[worth] = met.get(worth, 0) + 1
        self.assertEqual(set(met), {-3, -2, 0, 2, 3})

    def test_some_of_greater_boards(self):
        chance = random.Random(11)
        boards = [grid_board(2, 2), grid_board(3, 2), grid_board(3, 3), grid_board(4, 4), path_board(5)]
        boards += list(chance_boards(3, 5, 5, 4, 9)) + list(chance_boards(4, 4, 8, 8, 16))
        told = {deeds: 0 for deeds in range(7)}
        for board in boards:
            for fullness in (6, 9):
                stand = chance_stand(chance, board, fullness)
                for hand in HANDS:
                    for deeds in range(7):
                        told[deeds] += self.goes_through(board, stand, hand, deeds) is not None
        self.assertGreater(min(told.values()), 9, told)


class RacedTest(EndCase):
    def test_no_deeds(self):
        for hand in HANDS:
            self.asks((0, [], []), raced, path_board(3), (1, 0, 2), hand, 0, 2, 0)
            self.asks((0, [], []), raced, path_board(4), (2, 0, 0, 1), hand, 3, 0, 0)

    def test_won_by_the_one_whose_turn_it_is(self):
        for deeds in range(1, 7):
            # The point between them is the last breath of both: whoever lays takes.
            self.same(raced(path_board(3), (1, 0, 2), 1, 0, 2, deeds)[0], 1)
            self.same(raced(path_board(3), (1, 0, 2), 2, 0, 2, deeds)[0], -1)
            self.same(raced(path_board(3), (2, 0, 1), 1, 2, 0, deeds)[0], 1)
            self.same(raced(path_board(3), (2, 0, 1), 2, 2, 0, deeds)[0], -1)

    def test_the_stop_as_soon_as_a_stone_is_taken(self):
        # Behind the lay on 1 nothing is done any more, however many deeds there are.
        for deeds in range(1, 7):
            worth, web_1, web_2 = self.asked(raced, path_board(3), (1, 0, 2), 1, 0, 2, deeds)
            self.same(worth, 1)
            self.same(web_1, [((), 1)])
            self.assertFalse(any(done[:1] == (1,) for done, deed in web_2), web_2)
            self.same(len(web_2) > 0, deeds > 1)
        for deeds in range(1, 7):
            worth, web_1, web_2 = self.asked(raced, path_board(3), (1, 0, 2), 2, 0, 2, deeds)
            self.same((worth, web_2), (-1, [((), 1)]))
            self.assertFalse(any(done[:1] == (1,) for done, deed in web_1), web_1)

    def test_won_by_the_one_or_the_other_or_none(self):
        met = {}
        for board, stand, racing in (
            (path_board(3), (1, 0, 2), (0, 2)), (path_board(4), (1, 0, 0, 2), (0, 3)),
            (path_board(5), (1, 0, 1, 0, 2), (2, 4)), (path_board(6), (1, 0, 1, 0, 2, 0), (2, 4)),
            (grid_board(3, 2), picture("xo.", "..."), (0, 1)), (grid_board(3, 2), picture("xo.", "x.o"), (0, 1)),
            (grid_board(3, 2), picture("xx.", "oo."), (0, 3)), (grid_board(4, 2), picture("xx.o", "oo.x"), (0, 4)),
        ):
            for hand in HANDS:
                for worth in self.worths(board, stand, hand, racing):
                    met[(hand, worth)] = met.get((hand, worth), 0) + 1
                exchanged = self.worths(board, exchanged_stand(stand), slow_other(hand), racing[::-1])
                told = self.worths(board, stand, hand, racing)
                self.same(exchanged, [worth if worth is None else -worth for worth in told])
        for wanted in itertools.product(HANDS, (-1, 0, 1)):
            self.assertGreater(met.get(wanted, 0), 0, met)

    def test_another_stone_of_the_row_or_of_another_row_stops_nothing(self):
        # The stone on 0 can be taken at once, but it isn't one of the two.
        board, stand = path_board(7), (1, 0, 0, 1, 0, 0, 2)
        self.assertIn((1, None, 2), Going(board, stand, 2, 3, (3, 6)).rows())
        self.worths(board, stand, 2, (3, 6))
        self.worths(board, stand, 2, (0, 6))

    def test_two_passes_stop_a_race_too(self):
        board, stand = path_board(3), (1, 0, 2)
        for hand in HANDS:
            self.assertNotIn((None, None, 1), Going(board, stand, hand, 6, (0, 2)).rows())
            worth, web_1, web_2 = raced(board, stand, hand, 0, 2, 6)
            self.assertFalse([done for done, deed in web_1 + web_2 if done[-2:] == (None, None)])

    def test_all_small_ones(self):
        met = {}
        for board in small_boards(3):
            for stand in sound_stands(board):
                for one, other in itertools.product(range(len(board)), repeat=2):
                    if (stand[one], stand[other]) == (1, 2):
                        for hand in HANDS:
                            for worth in self.worths(board, stand, hand, (one, other)):
                                met[worth] = met.get(worth, 0) + 1
        self.assertLessEqual({-1, 0, 1}, set(met))

    def test_some_of_greater_boards(self):
        chance = random.Random(12)
        boards = [grid_board(3, 2), grid_board(3, 3), grid_board(4, 3), path_board(6)]
        boards += list(chance_boards(5, 6, 6, 5, 11)) + list(chance_boards(6, 6, 9, 9, 18))
        met = {}
        for board in boards:
            for fullness in (4, 7, 9, 10):
                stand = chance_stand(chance, board, fullness)
                if 1 in stand and 2 in stand:
                    racing = tuple(chance.choice([p for p in range(len(board)) if stand[p] == hand]) for hand in HANDS)
                    for hand in HANDS:
                        for worth in self.worths(board, stand, hand, racing):
                            met[worth] = met.get(worth, 0) + 1
        self.assertGreater(min(met.values()), 20, met)
        self.assertEqual(set(met), {-1, 0, 1, None})


class TooMuchTest(EndCase):
    def of_many(self, many, board, stand, hand, deeds, racing=()):
        """Told where just so many rows of deeds are at most 500, else refused."""
        self.same(len(Going(board, stand, hand, deeds, racing).rows()), many)
        told = self.goes_through(board, stand, hand, deeds, racing)
        self.same(told is None, many > MOST_ROWS)
        if not racing:
            self.same(len(Going(board, exchanged_stand(stand), slow_other(hand), deeds).rows()), many)
            told = self.goes_through(board, exchanged_stand(stand), slow_other(hand), deeds)
            self.same(told is None, many > MOST_ROWS)

    def test_ends_of_just_so_many_rows(self):
        self.of_many(499, grid_board(2, 3), (1, 0, 2, 1, 0, 0), 1, 6)
        self.of_many(499, path_board(9), (0, 0, 0, 0, 1, 1, 0, 2, 2), 2, 4)
        self.of_many(500, grid_board(2, 4), (0, 1, 0, 0, 1, 2, 2, 2), 2, 5)
        self.of_many(500, grid_board(5, 4), picture("x.o..", "oooo.", "o.oo.", ".o.o."), 2, 3)
        self.of_many(501, path_board(9), (0, 0, 0, 2, 0, 2, 0, 2, 0), 2, 4)
        self.of_many(502, grid_board(5, 2), picture("..x.x", "xx.x."), 2, 6)

    def test_races_of_just_so_many_rows(self):
        self.of_many(499, grid_board(5, 3), picture("..xxo", "oxoo.", "ox.x."), 1, 4, (3, 4))
        self.of_many(500, grid_board(5, 3), picture(".o.x.", "o.xo.", "xxxox"), 2, 4, (12, 5))
        self.of_many(501, path_board(8), (2, 0, 1, 0, 0, 2, 1, 0), 1, 6, (2, 5))
        self.of_many(501, grid_board(4, 2), picture("x...", "..oo"), 2, 4, (0, 6))
        self.of_many(502, grid_board(3, 3), picture("ox.", ".o.", "o.."), 1, 4, (1, 4))

    def test_an_end_is_too_much_where_a_race_from_there_is_not(self):
        # None goes on behind the taking of a stone of the race.
        board, stand = grid_board(5, 3), picture("..xxo", "oxoo.", "ox.x.")
        self.assertGreater(len(Going(board, stand, 1, 4).rows()), MOST_ROWS)
        self.refused(TooMuch, worked, board, stand, 1, 4)
        self.asked(raced, board, stand, 1, 3, 4, 4)

    def test_few_deeds_on_an_empty_board(self):
        # Of n points n + 2 rows of up to one deed, and behind each lay n more, behind a pass n + 1.
        for many, refused in ((21, False), (22, True), (36, True)):
            board, stand = path_board(many), (0,) * many
            self.same(many * many + 2 * many + 3 > MOST_ROWS, refused)
            for hand in HANDS:
                self.asks(many * (1, -1)[hand - 1], lambda: worked(board, stand, hand, 1)[0])
                self.same(self.goes_through(board, stand, hand, 2) is None, refused)

    def test_no_deeds_are_never_too_much(self):
        self.asks((0, [], []), worked, grid_board(6, 6), (0,) * 36, 1, 0)
        self.asks((0, [], []), raced, grid_board(6, 6), (1, 2) + (0,) * 34, 1, 0, 1, 0)

    def test_by_far_too_much(self):
        for deeds in (2, 3, 4, 5, 6, 7):
            for hand in HANDS:
                self.refused(TooMuch, worked, grid_board(6, 6), (0,) * 36, hand, deeds)
                self.refused(TooMuch, raced, grid_board(6, 6), (1, 2) + (0,) * 34, hand, 0, 1, deeds)


if __name__ == "__main__":
    unittest.main()
