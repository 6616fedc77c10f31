import random
import unittest

from stonebreath.boards import grid
from stonebreath.chases import chase
from stonebreath.counts import by_land, by_stones
from stonebreath.desk import Desk
from stonebreath.ends import worked
from stonebreath.errors import Again, NoBack, NoBreath, NoLay, NoPoint, NoRow, NoText, Over, TooMuch
from stonebreath.games import Game
from stonebreath.safety import safe, taking
from stonebreath.texts import read_game, show_game
from tests.helping import (
    GREAT, Case, chance_boards, chance_stand, grid_board, joined, path_board, picture, slow_laid, slow_other,
)

RULES = ("stones", "turns")
PATH = "points 4\nline 0 1\nline 1 2\nline 2 3\nrule stones\nstand .xo.\nhand 2"
PAIR = "points 2\nline 0 1\nrule stones\nstand ..\nhand 1"
# All that a desk tells of itself; taking is told of each stone besides.
LOOKS = ("show", "stand", "open", "count", "ended", "safe", "worth 0", "worth 1")


def text_of(board, rule, stand, hand):
    return show_game(Game(board, rule, stand, hand))


def grid_text(hand, *lines):
    return text_of(grid(len(lines[0]), len(lines)), "stones", picture(*lines), hand)


def pointed(number):
    """The rows that have the number as a point."""
    return [f"lay {number}", f"taking {number}", f"chase {number} 1"]


def bounded(number):
    return [f"chase 0 {number}", f"worth {number}"]


class DeskCase(Case):
    def says(self, desk, row, wanted):
        """The answer; of rows that only look, twice."""
        told = desk.say(row)
        self.same(told, wanted)
        if row.split(" ")[0] not in ("lay", "pass", "back"):
            self.same(desk.say(row), wanted)

    def desk_of(self, text, *rows):
        desk = Desk(text)
        for row in rows:
            self.says(desk, row, "ok")
        return desk

    def refuses(self, desk, row, error):
        """Refused with this very error, twice, and nothing changed."""
        ahead = [desk.say(look) for look in LOOKS]
        self.refused(error, desk.say, row)
        self.same([desk.say(look) for look in LOOKS], ahead)


class RowsTest(DeskCase):
    def test_lay_pass_and_back(self):
        desk = Desk(PATH)
        self.says(desk, "stand", ".xo.")
        self.says(desk, "lay 0", "ok")
        self.says(desk, "stand", "o.o.")
        self.says(desk, "pass", "ok")
        self.says(desk, "lay 3", "ok")
        self.says(desk, "stand", "o.oo")
        self.says(desk, "show", PATH + "\nlay 0\npass\nlay 3")
        self.says(desk, "back", "ok")
        self.says(desk, "back", "ok")
        self.says(desk, "show", PATH + "\nlay 0")
        self.says(desk, "back", "ok")
        self.says(desk, "show", PATH)
        self.says(desk, "stand", ".xo.")

    def test_show(self):
        for text in (PATH, PAIR, "points 1\nrule turns\nstand .\nhand 2", PATH + "\nlay 0\npass\nlay 3"):
            self.says(Desk(text), "show", text)

    def test_open(self):
        self.says(Desk(PATH), "open", "0 pass")
        self.says(self.desk_of(PAIR, "lay 0", "lay 1"), "open", "pass")
        self.says(self.desk_of(PAIR, "pass", "pass"), "open", "none")
        self.says(Desk("points 1\nrule turns\nstand .\nhand 2"), "open", "pass")
        self.says(Desk(grid_text(1, "....", "....", "....")), "open", "0 1 2 3 4 5 6 7 8 9 10 11 pass")

    def test_count(self):
        self.says(Desk(PATH), "count", "2 2 / 1 1")
        self.says(self.desk_of(PATH, "lay 0"), "count", "0 4 / 0 3")
        self.says(Desk(PAIR), "count", "0 0 / 0 0")
        self.says(Desk(grid_text(1, "x....", ".....", "....o")), "count", "1 1 / 0 0")
        self.says(Desk(grid_text(1, ".....x")), "count", "6 0 / 5 0")

    def test_ended(self):
        self.says(Desk(PAIR), "ended", "no")
        self.says(self.desk_of(PAIR, "pass"), "ended", "no")
        self.says(self.desk_of(PAIR, "pass", "pass"), "ended", "passed")

    def test_ended_by_three_hundred_deeds(self):
        chance = random.Random(4)
        game = Game(grid(5, 4), "stones", (0,) * 20, 1)
        while len(game.deeds()) < 299:
            game.deed(chance.choice(game.open_deeds()[:-1] or [None]))
        desk = Desk(show_game(game))
        self.says(desk, "ended", "no")
        self.says(desk, "pass", "ok")
        self.says(desk, "ended", "long")
        self.says(desk, "open", "none")
        self.refused(Over, desk.say, "pass")
        self.refused(Over, desk.say, "lay 0")
        self.refused(NoPoint, desk.say, "lay 20")
        self.says(desk, "back", "ok")
        self.says(desk, "ended", "no")

    def test_safe(self):
        self.says(Desk(PAIR), "safe", "none / none")
        self.says(Desk(grid_text(1, ".x.", "xxx")), "safe", "1,3,4,5 / none")
        self.says(Desk(grid_text(1, ".o.", "ooo")), "safe", "none / 1,3,4,5")
        self.says(Desk(grid_text(2, ".x.", "x.x", ".x.")), "safe", "1 3 5 7 / none")
        self.says(Desk(grid_text(2, ".xo.", "x.oo", ".xo.")), "safe", "none / 2,6,7,10")
        paths = joined(15, [(p, p + 1) for p in range(14) if p % 3 < 2])
        signs = "." + "x..o..x..o..x" + "."
        self.says(Desk(text_of(paths, "turns", picture(signs), 1)), "safe", "1 7 13 / 4 10")

    def test_taking(self):
        desk = Desk(grid_text(1, ".x.", "xxx"))
        for point in (1, 3, 4, 5):
            self.says(desk, f"taking {point}", "safe")
        self.same(Desk(PATH).say("taking 1"), "0")
        self.same(Desk(PATH).say("taking 2"), "3")
        # Both stones of the row, one behind the other: hand 1 lays on 2 and 3 in either order.
        told = Desk(grid_text(2, "oo", "..")).say("taking 1")
        self.assertIn(told, ("2 3", "3 2"))

    def test_chase(self):
        corner = Desk(grid_text(1, "x...", "....", "....", "...."))
        self.same([corner.say(f"chase 0 {most}") for most in range(1, 6)], ["free"] * 3 + ["caught"] * 2)
        corner = Desk(grid_text(1, "o...", "....", "....", "...."))
        self.same([corner.say(f"chase 0 {most}") for most in range(1, 6)], ["free"] * 3 + ["caught"] * 2)
        # The hunter is the other hand, whosever turn it is.
        for hand in (1, 2):
            desk = Desk(grid_text(hand, "x.", "o."))
            self.says(desk, "chase 0 1", "caught")
            self.says(desk, "chase 2 1", "caught")

    def test_worth(self):
        self.same([Desk(PATH).say(f"worth {deeds}") for deeds in range(7)], ["0"] + ["-4"] * 6)
        turned = PATH.replace(".xo.", ".ox.").replace("hand 2", "hand 1")
        self.same([Desk(turned).say(f"worth {deeds}") for deeds in range(7)], ["0"] + ["4"] * 6)
        self.says(self.desk_of(PATH, "lay 0"), "worth 0", "-4")

    def test_the_worth_is_of_the_hand_whose_turn_it_is(self):
        text = "points 3\nline 0 1\nline 1 2\nrule stones\nstand x.o\nhand 1"
        desk = Desk(text)
        self.says(desk, "worth 1", "3")
        self.says(desk, "pass", "ok")
        self.says(desk, "worth 1", "-3")
        # An end begins anew: passes and stands of the game ahead of it don't count in it.
        self.says(desk, "worth 2", str(worked(path_board(3), (1, 0, 2), 2, 2)[0]))
        self.says(desk, "pass", "ok")
        self.says(desk, "ended", "passed")
        self.says(desk, "worth 1", "3")

    def test_the_game_bars_what_an_end_does_not(self):
        desk = self.desk_of(PAIR, "lay 0", "lay 1")
        self.refuses(desk, "lay 0", Again)
        self.says(desk, "worth 0", "-2")
        self.says(desk, "worth 1", "2")

    def test_behind_the_end_all_is_told_as_ahead_of_it(self):
        desk = self.desk_of(PATH, "pass", "pass")
        self.says(desk, "stand", ".xo.")
        self.says(desk, "count", "2 2 / 1 1")
        self.says(desk, "safe", "none / none")
        self.says(desk, "taking 1", "0")
        self.says(desk, "chase 1 1", "caught")
        self.says(desk, "worth 1", "-4")

    def test_rows_tell_what_the_stages_tell(self):
        chance = random.Random(5)
        boards = [path_board(1), path_board(5), grid_board(3, 3), grid_board(4, 4), grid_board(5, 4), grid_board(6, 6)]
        for board in boards + list(chance_boards(41, 6, 9, 8, 18)):
            for rule, fullness in zip(RULES, (5, 9)):
                game = Game(board, rule, chance_stand(chance, board, fullness), chance.choice((1, 2)))
                desk = Desk(show_game(game))
                for time in range(3):
                    self.tells_as(desk, game, chance)
                    if game.ended() is None:
                        what = chance.choice(game.open_deeds())
                        game.deed(what)
                        self.says(desk, "pass" if what is None else f"lay {what}", "ok")
                game.back()
                self.says(desk, "back", "ok")
                self.tells_as(desk, game, chance)

    def tells_as(self, desk, game, chance):
        board, stand = game.board(), game.stand()
        self.says(desk, "show", show_game(game))
        self.says(desk, "stand", "".join(".xo"[what] for what in stand))
        deeds = ["pass" if what is None else str(what) for what in game.open_deeds()]
        self.says(desk, "open", " ".join(deeds) or "none")
        self.says(desk, "count", "{} {} / {} {}".format(*by_stones(board, stand), *by_land(game)))
        self.says(desk, "ended", game.ended() or "no")
        papers = [safe(board, stand, hand)[0] for hand in (1, 2)]
        shown = [" ".join(",".join(map(str, row)) for row in some_rows) or "none" for some_rows in papers]
        self.says(desk, "safe", " / ".join(shown))
        for point in chance.sample(range(len(board)), min(3, len(board))):
            if stand[point] == 0:
                self.refuses_point(desk, point)
            else:
                self.tells_stone(desk, board, stand, point)
        for deeds in (0, 2, chance.randrange(3, 7)):
            try:
                wanted = str(worked(board, stand, game.hand(), deeds)[0])
            except TooMuch:
                self.refused(TooMuch, desk.say, f"worth {deeds}")
            else:
                self.says(desk, f"worth {deeds}", wanted)

    def refuses_point(self, desk, point):
        self.refused(NoPoint, desk.say, f"taking {point}")
        self.refused(NoPoint, desk.say, f"chase {point} 1")

    def tells_stone(self, desk, board, stand, point):
        told, hand = desk.say(f"taking {point}"), slow_other(stand[point])
        self.same(told == "safe", taking(board, stand, point) is None)
        now = stand
        for lay in [] if told == "safe" else told.split(" "):
            self.assertNotEqual(now[point], 0)
            now = slow_laid(board, now, hand, int(lay))[0]
        self.same(now[point] == 0, told != "safe")
        if len(board) > 16:
            self.refused(TooMuch, desk.say, f"chase {point} 2")
        else:
            self.says(desk, f"chase {point} 2", chase(board, stand, hand, point, 2)[0])


class NoRowTest(DeskCase):
    def test_other_words(self):
        desk = self.desk_of(PATH, "lay 0")
        for row in ("", "x", "Lay 1", "LAY 1", "lays 1", "lay1", "lay,1", "passes", "undo", "none", "points 4", "0"):
            self.refuses(desk, row, NoRow)

    def test_too_few_and_too_many_words(self):
        desk = self.desk_of(PATH, "lay 0")
        for word in ("pass", "back", "show", "stand", "open", "count", "ended", "safe"):
            for more in (" 0", " 1 2", " pass", " x"):
                self.refuses(desk, word + more, NoRow)
        for row in ("lay", "lay 1 3", "taking", "taking 0 1", "chase", "chase 0", "chase 0 1 1", "worth", "worth 1 1"):
            self.refuses(desk, row, NoRow)

    def test_blanks_and_feeds(self):
        desk = self.desk_of(PATH, "lay 0")
        for row in ("lay 3", "back", "taking 0", "chase 0 1", "pass", *LOOKS):
            for other in (" " + row, row + " ", "  " + row, row + "  ", "\n" + row, row + "\n"):
                self.refuses(desk, other, NoRow)
        for row in ("lay 3", "taking 0", "chase 0 1", "worth 1"):
            for between in ("  ", "\n", "\t", ",", "", " / "):
                self.refuses(desk, row.replace(" ", between), NoRow)
        for row in (" ", "  ", "\n", "pass\npass", "lay 3\npass", "chase  0 1", "chase 0  1", "lay\t3"):
            self.refuses(desk, row, NoRow)

    def test_numbers_badly_written(self):
        desk = self.desk_of(PATH, "lay 0")
        for number in ("00", "01", "03", "-1", "-0", "+1", "1.0", "1,", "x", "one", "0x1", "1_0", "1e1", "\u0661"):
            for row in pointed(number) + bounded(number):
                self.refuses(desk, row, NoRow)

    def test_each_sign(self):
        desk = self.desk_of(PATH, "lay 0")
        for sign in [chr(number) for number in range(32, 127) if not chr(number).isdigit()]:
            for row in pointed(sign) + bounded(sign) + pointed("1" + sign) + bounded("1" + sign):
                self.refused(NoRow, desk.say, row)

    def test_numbers_of_many_figures(self):
        desk = self.desk_of(PATH, "lay 0")
        for number in ("9" * 61, "1" + "0" * 60, "1" * 100, "7" * 3900):
            for row in pointed(number) + bounded(number):
                self.refuses(desk, row, NoRow)
        for number in ("9" * 60, str(GREAT), "9" * 59):
            for row in pointed(number):
                self.refuses(desk, row, NoPoint)
            for row in bounded(number):
                self.refuses(desk, row, NoRow)

    def test_bounds(self):
        desk = self.desk_of(PATH, "lay 0")
        for most in (0, 6, 7, 10, 99):
            self.refuses(desk, f"chase 0 {most}", NoRow)
        for deeds in (7, 8, 10, 60):
            self.refuses(desk, f"worth {deeds}", NoRow)
        for most in range(1, 6):
            self.says(desk, f"chase 0 {most}", "caught")
        for deeds in range(7):
            self.says(desk, f"worth {deeds}", str(worked(path_board(4), (2, 0, 2, 0), 1, deeds)[0]))

    def test_what_is_no_text(self):
        desk = self.desk_of(PATH, "lay 0")
        for thing in (None, True, False, 0, 3, GREAT, 1.5, [], ["pass"], ("pass",), ("lay", 3), {}, b"pass"):
            self.refuses(desk, thing, NoRow)


class NoPointTest(DeskCase):
    def test_a_point_that_the_board_has_not(self):
        desk = self.desk_of(PATH, "lay 0")
        for point in (4, 5, 10, 36, 99):
            for row in pointed(point):
                self.refuses(desk, row, NoPoint)

    def test_a_point_without_a_stone(self):
        desk = self.desk_of(PATH, "lay 0")
        for point in (1, 3):
            self.refuses(desk, f"taking {point}", NoPoint)
            for most in range(1, 6):
                self.refuses(desk, f"chase {point} {most}", NoPoint)

    def test_no_row_comes_ahead(self):
        desk = self.desk_of(PATH, "lay 0")
        for row in ("chase 9 0", "chase 9 6", "chase 1 0", "chase 1 6", "chase 9 x", "chase 9 01", "lay 9 9", "lay 09"):
            self.refuses(desk, row, NoRow)

    def test_ahead_of_what_the_stages_refuse(self):
        desk = self.desk_of(PATH, "pass", "pass")
        self.refuses(desk, "lay 4", NoPoint)
        self.refuses(desk, "lay 3", Over)
        self.refuses(desk, "lay 1", Over)
        self.refuses(desk, "lay 03", NoRow)
        self.refuses(desk, "pass 1", NoRow)
        great = Desk(grid_text(1, "x.....", "......", "......"))
        for point in (1, 17, 18, 36):
            self.refused(NoPoint, great.say, f"chase {point} 1")
            self.refused(NoPoint, great.say, f"taking {point}")
        self.refused(NoRow, great.say, "chase 0 6")
        self.refused(TooMuch, great.say, "chase 0 1")


class StagesTest(DeskCase):
    def test_over(self):
        desk = self.desk_of(PATH, "lay 0", "pass", "pass")
        for row in ("pass", "lay 0", "lay 1", "lay 3"):
            self.refuses(desk, row, Over)
        self.says(desk, "back", "ok")
        self.says(desk, "lay 3", "ok")

    def test_no_back(self):
        for text in (PATH, PAIR):
            desk = Desk(text)
            self.refuses(desk, "back", NoBack)
            self.says(desk, "pass", "ok")
            self.says(desk, "back", "ok")
            self.refuses(desk, "back", NoBack)

    def test_deeds_of_the_text_are_taken_back_too(self):
        desk = Desk(PATH + "\nlay 0\npass")
        self.says(desk, "back", "ok")
        self.says(desk, "back", "ok")
        self.refuses(desk, "back", NoBack)
        self.says(desk, "show", PATH)

    def test_no_lay_and_no_breath(self):
        desk = Desk(PATH)
        self.refuses(desk, "lay 1", NoLay)
        self.refuses(desk, "lay 2", NoLay)
        self.says(desk, "lay 0", "ok")
        self.refuses(desk, "lay 3", NoBreath)

    def test_again(self):
        desk = self.desk_of(PATH, "lay 0")
        self.refuses(desk, "lay 1", Again)
        self.numbered(desk, "lay 1", 0)
        self.numbered(self.desk_of(PAIR, "lay 0", "lay 1"), "lay 0", 1)
        path = "points 3\nline 0 1\nline 1 2\nrule RULE\nstand ...\nhand 1\nlay 0\nlay 2\nlay 1\nlay 2"
        self.numbered(Desk(path.replace("RULE", "stones")), "lay 0", 2)
        self.says(Desk(path.replace("RULE", "turns")), "lay 0", "ok")

    def numbered(self, desk, row, number):
        with self.assertRaises(Again) as caught:
            desk.say(row)
        self.same(caught.exception.number, number)

    def test_too_much(self):
        desk = Desk(text_of(path_board(17), "turns", (1,) + (0,) * 16, 1))
        for most in range(1, 6):
            self.refused(TooMuch, desk.say, f"chase 0 {most}")
        desk = Desk(text_of(path_board(16), "turns", (1,) + (0,) * 15, 1))
        self.says(desk, "chase 0 1", "caught")
        for deeds in range(3, 7):
            self.refused(TooMuch, desk.say, f"worth {deeds}")
        # 501 rows of deeds, and 500.
        desk = Desk(text_of(path_board(9), "stones", (0, 0, 0, 2, 0, 2, 0, 2, 0), 2))
        self.refused(TooMuch, desk.say, "worth 4")
        desk = Desk(text_of(grid(2, 4), "stones", (0, 1, 0, 0, 1, 2, 2, 2), 2))
        self.says(desk, "worth 5", str(worked(grid(2, 4), (0, 1, 0, 0, 1, 2, 2, 2), 2, 5)[0]))


class DeskTest(DeskCase):
    def test_what_is_no_game_s_text(self):
        for text, line in (
            ("", 0), (None, 0), (5, 0), (True, 0), ([PATH], 0), (PATH + "\n", 7), (PATH + "\nlay 1", 7), (PATH[:-7], 6),
            (PATH + "\npass\npass\npass", 9), (PATH.replace("4", "04"), 0), (PATH.replace(".xo.", "oxo."), 5),
        ):
            with self.assertRaises(NoText) as caught:
                Desk(text)
            self.assertIs(type(caught.exception), NoText)
            self.same(caught.exception.line, line)

    def test_two_desks_of_one_text_have_nothing_in_common(self):
        one, two = Desk(PATH), Desk(PATH)
        self.says(one, "lay 0", "ok")
        self.says(two, "show", PATH)
        self.says(two, "pass", "ok")
        self.says(two, "pass", "ok")
        self.says(one, "ended", "no")
        self.says(one, "show", PATH + "\nlay 0")
        self.says(two, "show", PATH + "\npass\npass")
        self.says(Desk(PATH), "show", PATH)

    def test_a_desk_of_the_text_that_another_shows_goes_on_as_that_one(self):
        chance = random.Random(6)
        for board in [path_board(2), path_board(3), grid_board(3, 2)] + list(chance_boards(42, 3, 6, 6, 12)):
            for rule in RULES:
                one = Desk(text_of(board, rule, chance_stand(chance, board, 4), chance.choice((1, 2))))
                for time in range(12):
                    two = Desk(one.say("show"))
                    for row in self.all_rows(board):
                        self.same(self.answer(two, row), self.answer(one, row))
                    what = chance.choice(one.say("open").split(" "))
                    if what != "none":
                        self.says(one, what if what == "pass" else f"lay {what}", "ok")

    def all_rows(self, board):
        points = range(len(board) + 1)
        stones = [f"{word} {point}" for word in ("taking", "lay") for point in points]
        return [*LOOKS, "worth 2", "back", "pass", *stones, *[f"chase {point} 2" for point in points]]

    def answer(self, desk, row):
        """What is told and shown then, or the refusal; what was done is undone."""
        ahead = desk.say("show")
        try:
            told = (desk.say(row), desk.say("show"))
        except ValueError as e:
            told = (type(e).__name__, getattr(e, "number", None))
        else:
            if row == "back":
                desk.say(ahead.split("\n")[-1])
            elif told[1] != ahead:
                desk.say("back")
        self.same(desk.say("show"), ahead)
        return told

    def test_what_a_desk_shows_can_be_read(self):
        desk = self.desk_of(PATH, "lay 0", "pass", "lay 3")
        self.same(read_game(desk.say("show")).deeds(), [0, None, 3])


if __name__ == "__main__":
    unittest.main()
