import random
import unittest

from stonebreath.boards import grid
from stonebreath.errors import Again, NoBack, NoBreath, NoLay, NoStand, Over
from stonebreath.games import Game
from tests.helping import (
    GREAT, Case, exchanged_stand, grid_board, joined, path_board, picture, renamed_board, renamed_stand, slow_laid,
    slow_other, slow_sound, all_stands,
)

RULES = ("stones", "turns")
LONG_BOARD = grid_board(5, 4)


class SlowGame:
    """A game told straight from the words of [10] to [12], each time from its begin on."""

    def __init__(self, board, rule, stand, hand):
        self.board, self.rule, self.begin, self.deeds = board, rule, (stand, hand), []

    def moments(self):
        """Of each moment: the stand, whose turn it is, the lost stones of both hands."""
        stand, hand = self.begin
        lost = {1: 0, 2: 0}
        told = [(stand, hand, 0, 0)]
        for what in self.deeds:
            if what is not None:
                stand, taken = slow_laid(self.board, stand, hand, what)
                lost[slow_other(hand)] += len(taken)
            hand = slow_other(hand)
            told.append((stand, hand, lost[1], lost[2]))
        return told

    def ended(self):
        if len(self.deeds) >= 2 and self.deeds[-1] is None and self.deeds[-2] is None:
            return "passed"
        return "long" if len(self.deeds) >= 300 else None

    def refusals(self):
        """Of each deed None or the refusal, as (class, number)."""
        return {what: self.refusal(what, self.moments()) for what in [*range(len(self.board)), None]}

    def refusal(self, what, moments):
        if self.ended():
            return (Over, None)
        if what is None:
            return None
        stand, hand = moments[-1][:2]
        told = slow_laid(self.board, stand, hand, what)
        if told in (NoLay, NoBreath):
            return (told, None)
        turn = slow_other(hand)
        same = [n for n, moment in enumerate(moments) if moment[0] == told[0]]
        if self.rule == "turns":
            same = [n for n in same if moments[n][1] == turn]
        return (Again, same[0]) if same else None


class GameCase(Case):
    def looks(self, game, slow):
        """All that a game tells, each answer being the asker's own."""
        moments = slow.moments()
        stand, hand, lost_1, lost_2 = moments[-1]
        refusals = slow.refusals()
        self.asks(stand, game.stand)
        self.asks(hand, game.hand)
        self.asks([moment[0] for moment in moments], game.stands)
        self.asks(slow.deeds, game.deeds)
        self.asks([what for what in refusals if refusals[what] is None], game.open_deeds)
        self.asks(lost_1, game.lost, 1)
        self.asks(lost_2, game.lost, 2)
        self.asks(slow.ended(), game.ended)
        self.asks(slow.board, game.board)
        self.asks(slow.rule, game.rule)
        self.asks(slow.begin, game.begin)
        return refusals

    def refused_deed(self, game, what, error, number=None):
        self.refused(error, game.deed, what)
        if number is not None:
            try:
                game.deed(what)
            except Again as e:
                self.same(e.number, number)

    def does(self, game, what):
        self.same(game.deed(what), None)

    def played(self, board, rule, stand, hand, deeds):
        game = Game(board, rule, stand, hand)
        for what in deeds:
            self.does(game, what)
        return game

    def goes_all_ways(self, game, slow, deeds):
        """From here on each deed: refused and nothing changed, or done and taken back."""
        refusals = self.looks(game, slow)
        for what, refusal in refusals.items():
            if refusal is not None:
                self.refused_deed(game, what, *refusal)
        if any(refusals.values()):
            self.looks(game, slow)
        if deeds > 0:
            for what in [what for what in refusals if refusals[what] is None]:
                self.does(game, what)
                slow.deeds.append(what)
                self.goes_all_ways(game, slow, deeds - 1)
                slow.deeds.pop()
                self.same(game.back(), None)
                self.same(game.deeds(), slow.deeds)


class BeginTest(GameCase):
    def test_what_is_told_at_the_begin(self):
        board = grid(3, 2)
        for rule in RULES:
            for hand in (1, 2):
                for stand in ((0,) * 6, (1, 2, 0, 0, 0, 0)):
                    game = Game(board, rule, stand, hand)
                    self.asks(stand, game.stand)
                    self.asks(hand, game.hand)
                    self.asks([stand], game.stands)
                    self.asks([], game.deeds)
                    self.asks(None, game.ended)
                    self.asks(0, game.lost, 1)
                    self.asks(0, game.lost, 2)
                    self.asks(board, game.board)
                    self.asks(rule, game.rule)
                    self.asks((stand, hand), game.begin)
                    self.refused(NoBack, game.back)

    def test_begins_that_are_no_stand(self):
        board = path_board(3)
        things = [None, True, False, 0, 1, 3, -1, GREAT, "", "...", "000", 1.5, [], [0, 0, 0], [1, 0, 2], {}, {0: 0}]
        things += [(), (0,), (0, 0), (0, 0, 0, 0), (0,) * 200, ((0, 0, 0),), ([0, 0, 0],), {0, 1, 2}]
        whats = (3, -1, GREAT, -GREAT, True, False, None, "0", "", ".", (0,), [0], {}, 0.0, 1.0)
        for what in whats:
            things += [(what, 0, 0), (0, what, 0), (0, 0, what), (what, what, what)]
        for thing in things:
            for rule in RULES:
                self.refused(NoStand, Game, board, rule, thing, 1)
                self.refused(NoStand, Game, board, rule, thing, 2)

    def test_begins_that_are_not_sound(self):
        for board in (((),), path_board(2), path_board(3), joined(4, [(0, 1), (2, 3)])):
            for stand in all_stands(board):
                for rule in RULES:
                    for hand in (1, 2):
                        if slow_sound(board, stand):
                            self.asks(stand, Game(board, rule, stand, hand).stand)
                        else:
                            self.refused(NoStand, Game, board, rule, stand, hand)

    def test_either_hand_is_the_first(self):
        for hand, other in ((1, 2), (2, 1)):
            game = self.played(path_board(3), "stones", (0, 0, 0), hand, [1])
            self.asks((0, hand, 0), game.stand)
            self.asks(other, game.hand)
            self.does(game, None)
            self.asks(hand, game.hand)


class DeedTest(GameCase):
    def test_a_lay_on_a_point_that_is_not_free(self):
        for rule in RULES:
            game = Game(path_board(4), rule, (1, 0, 0, 2), 1)
            self.refused_deed(game, 0, NoLay)
            self.refused_deed(game, 3, NoLay)
            self.asks([(1, 0, 0, 2)], game.stands)

    def test_a_lay_without_a_breath(self):
        for rule in RULES:
            game = Game(path_board(4), rule, (0, 2, 0, 0), 1)
            self.refused_deed(game, 0, NoBreath)
            self.asks([], game.deeds)
            self.asks([2, 3, None], game.open_deeds)

    def test_a_stand_that_comes_again_by_either_rule(self):
        for rule in RULES:
            game = self.played(path_board(2), rule, (0, 0), 1, [0, 1])
            self.asks([(0, 0), (1, 0), (0, 2)], game.stands)
            self.refused_deed(game, 0, Again, 1)
            self.refused_deed(game, 1, NoLay)
            self.asks([None], game.open_deeds)

    def test_the_begin_comes_again(self):
        for rule in RULES:
            board = grid_board(4, 3)
            game = self.played(board, rule, picture(".xo.", "x.xo", ".xo."), 2, [5])
            self.asks(picture(".xo.", "xo.o", ".xo."), game.stand)
            self.refused_deed(game, 6, Again, 0)
            self.does(game, 0)
            self.does(game, 3)
            self.does(game, 6)
            self.asks([1, 1], lambda: [game.lost(1), game.lost(2)])

    def test_what_the_rule_stones_bars_and_the_rule_turns_does_not(self):
        board, deeds = path_board(3), [0, 2, 1, 2]
        game = self.played(board, "stones", (0, 0, 0), 1, deeds)
        self.refused_deed(game, 0, Again, 2)
        self.asks([1, None], game.open_deeds)
        game = self.played(board, "turns", (0, 0, 0), 1, deeds)
        self.asks([0, 1, None], game.open_deeds)
        self.does(game, 0)
        self.asks([(0, 0, 0), (1, 0, 0), (1, 0, 2), (1, 1, 0), (0, 0, 2), (1, 0, 2)], game.stands)

    def test_the_number_is_the_least_by_the_rule(self):
        for rule, number in (("stones", 0), ("turns", 1)):
            game = self.played(path_board(2), rule, (0, 1), 1, [None, 0])
            self.refused_deed(game, 1, Again, number)

    def test_passes_bring_back_stands_unrefused(self):
        for rule in RULES:
            game = self.played(path_board(3), rule, (0, 0, 0), 2, [None, 1, None])
            self.asks([(0, 0, 0), (0, 0, 0), (0, 1, 0), (0, 1, 0)], game.stands)

    def test_all_ways_on_small_boards(self):
        ring = joined(3, [(0, 1), (1, 2), (0, 2)])
        apart = joined(4, [(0, 1), (2, 3)])
        for board, stand, deeds in (
            (((),), (0,), 3), (path_board(2), (0, 0), 6), (path_board(2), (0, 1), 6), (path_board(3), (0, 0, 0), 5),
            (ring, (0, 0, 0), 4), (apart, (1, 0, 0, 2), 4), (path_board(4), (0, 1, 2, 0), 4),
        ):
            for rule in RULES:
                for hand in (1, 2):
                    game = Game(board, rule, stand, hand)
                    self.goes_all_ways(game, SlowGame(board, rule, stand, hand), deeds)


class EndTest(GameCase):
    def is_over(self, game, word):
        self.asks(word, game.ended)
        self.asks([], game.open_deeds)
        ahead = (game.stands(), game.deeds(), game.hand(), game.lost(1), game.lost(2))
        for what in [*range(len(game.board())), None]:
            self.refused(Over, game.deed, what)
        self.same((game.stands(), game.deeds(), game.hand(), game.lost(1), game.lost(2)), ahead)

    def test_two_passes(self):
        for rule in RULES:
            for hand in (1, 2):
                game = self.played(path_board(3), rule, (0, 1, 0), hand, [None])
                self.asks(None, game.ended)
                self.does(game, None)
                self.is_over(game, "passed")
                self.asks(hand, game.hand)

    def test_passes_with_a_lay_between_them_are_no_end(self):
        game = self.played(path_board(3), "stones", (0, 0, 0), 1, [None, 1, None])
        self.asks(None, game.ended)
        self.does(game, None)
        self.is_over(game, "passed")
        self.asks([None, 1, None, None], game.deeds)

    def test_over_comes_ahead_of_what_else_would_be_refused(self):
        game = self.played(path_board(2), "stones", (0, 0), 1, [0, 1, None, None])
        self.refused_deed(game, 0, Over)
        self.refused_deed(game, 1, Over)
        game = self.played(path_board(3), "stones", (0, 2, 0), 1, [None, None])
        self.refused_deed(game, 0, Over)

    def long_game(self, rule, seed, deeds):
        """A game of lays wherever there are any: it goes on for long, since rows are taken over and over."""
        chance = random.Random(seed)
        game = Game(LONG_BOARD, rule, (0,) * 20, 1)
        while len(game.deeds()) < deeds:
            lays = [what for what in game.open_deeds() if what is not None]
            game.deed(chance.choice(lays) if lays else None)
        return game

    def test_three_hundred_deeds(self):
        for rule in RULES:
            game = self.long_game(rule, 4, 299)
            self.asks(None, game.ended)
            self.does(game, game.open_deeds()[0])
            self.same(len(game.deeds()), 300)
            self.is_over(game, "long")
            game.back()
            self.asks(None, game.ended)
            self.does(game, None)
            self.is_over(game, "long")

    def test_two_passes_that_are_the_last_of_three_hundred_deeds(self):
        game = self.long_game("stones", 5, 298)
        self.does(game, None)
        self.asks(None, game.ended)
        self.does(game, None)
        self.same(len(game.deeds()), 300)
        self.is_over(game, "passed")

    def test_a_long_game_is_as_the_words_tell_it(self):
        for rule in RULES:
            game = self.long_game(rule, 6, 300)
            slow = SlowGame(LONG_BOARD, rule, (0,) * 20, 1)
            slow.deeds = game.deeds()
            self.looks(game, slow)
            self.assertGreater(game.lost(1) * game.lost(2), 0)
            if rule == "stones":
                lays = [stand for what, stand in zip(game.deeds(), game.stands()[1:]) if what is not None]
                self.same(len(set(lays)), len(lays))
            for many in (299, 250, 120, 13):
                while len(game.deeds()) > many:
                    game.back()
                    slow.deeds.pop()
                refusals = self.looks(game, slow)
                for what in [what for what in refusals if refusals[what] is not None]:
                    self.refused_deed(game, what, *refusals[what])
                self.looks(game, slow)


class BackTest(GameCase):
    def test_no_deed_to_take_back(self):
        for hand in (1, 2):
            game = Game(path_board(3), "turns", (0, 0, 0), hand)
            self.refused(NoBack, game.back)
            self.does(game, 1)
            self.same(game.back(), None)
            self.refused(NoBack, game.back)
            self.asks(hand, game.hand)
            self.asks([(0, 0, 0)], game.stands)

    def test_from_behind_the_end(self):
        game = self.played(path_board(3), "stones", (0, 0, 0), 1, [1, None, None])
        self.asks("passed", game.ended)
        game.back()
        self.asks(None, game.ended)
        self.asks(1, game.hand)
        self.asks([1, None], game.deeds)
        self.asks([0, 2, None], game.open_deeds)

    def test_stones_taken_come_back(self):
        game = self.played(path_board(5), "stones", (1, 1, 0, 1, 1), 2, [2])
        self.asks(4, game.lost, 1)
        self.asks(0, game.lost, 2)
        self.asks((0, 0, 2, 0, 0), game.stand)
        game.back()
        self.asks(0, game.lost, 1)
        self.asks((1, 1, 0, 1, 1), game.stand)
        self.asks([2, None], game.open_deeds)

    def test_what_a_deed_taken_back_barred_is_open_again(self):
        game = self.played(path_board(2), "stones", (0, 0), 1, [0, 1])
        self.refused_deed(game, 0, Again, 1)
        game.back()
        game.back()
        self.asks([0, 1, None], game.open_deeds)
        self.does(game, 1)
        self.does(game, 0)
        self.refused_deed(game, 1, Again, 1)

    def test_lost_stones_of_both_hands(self):
        game = self.played(path_board(3), "turns", (0, 0, 0), 1, [0, 2, 1, 2, 0])
        self.asks([2, 1], lambda: [game.lost(1), game.lost(2)])
        for wanted in ([2, 1], [0, 1], [0, 0], [0, 0], [0, 0]):
            game.back()
            self.asks(wanted, lambda: [game.lost(1), game.lost(2)])


class OwnTest(GameCase):
    def test_two_games_do_not_share_what_they_keep(self):
        one = Game(path_board(3), "stones", (0, 0, 0), 1)
        other = Game(path_board(3), "stones", (0, 0, 0), 1)
        one.deed(1)
        self.asks([], other.deeds)
        self.asks([(0, 0, 0)], other.stands)
        self.asks((0, 0, 0), other.stand)

    def test_what_was_told_earlier_stays(self):
        game = self.played(path_board(2), "stones", (0, 0), 1, [0])
        told = (game.stands(), game.deeds(), game.open_deeds(), game.begin())
        written = repr(told)
        game.deed(1)
        game.back()
        game.back()
        self.assertEqual(repr(told), written)

    def test_lists_told_may_be_changed(self):
        game = self.played(path_board(3), "turns", (0, 0, 0), 1, [0, 2])
        game.stands().clear()
        game.deeds().clear()
        game.open_deeds().append(0)
        self.asks([0, 2], game.deeds)
        self.asks([(0, 0, 0), (1, 0, 0), (1, 0, 2)], game.stands)
        self.asks([1, None], game.open_deeds)
        self.does(game, 1)


class OtherNamesTest(GameCase):
    def test_other_names_and_hands_exchanged(self):
        chance = random.Random(9)
        board = grid_board(4, 3)
        for rule in RULES:
            order = chance.sample(range(12), 12)
            game = Game(board, rule, (0,) * 12, 1)
            renamed = Game(renamed_board(board, order), rule, (0,) * 12, 1)
            exchanged = Game(board, rule, (0,) * 12, 2)
            while game.ended() is None and len(game.deeds()) < 60:
                what = chance.choice(game.open_deeds()[:-1] or [None])
                game.deed(what)
                renamed.deed(what if what is None else order[what])
                exchanged.deed(what)
                self.same(renamed.stand(), renamed_stand(game.stand(), order))
                self.same(exchanged.stand(), exchanged_stand(game.stand()))
                lays = sorted(order[point] for point in game.open_deeds()[:-1])
                self.same(renamed.open_deeds(), lays + game.open_deeds()[-1:])
                self.same(exchanged.open_deeds(), game.open_deeds())
                self.same([exchanged.lost(2), exchanged.lost(1)], [game.lost(1), game.lost(2)])
            self.same(len(game.deeds()), 60)


if __name__ == "__main__":
    unittest.main()
