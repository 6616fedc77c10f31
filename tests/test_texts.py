import itertools
import random
import re
import unittest

from stonebreath.boards import grid
from stonebreath.errors import NoText
from stonebreath.games import Game
from stonebreath.texts import read_game, show_game
from tests.helping import (
    GREAT, Case, chance_boards, chance_stand, exchanged_stand, grid_board, joined, path_board, slow_sound,
    small_boards, sound_stands,
)
from tests.test_games import SlowGame

RULES = ("stones", "turns")
NUMBER = "(0|[1-9][0-9]*)"
PLAIN = "points 4\nline 0 1\nline 1 2\nline 2 3\nrule stones\nstand .xo.\nhand 2\nlay 0\npass\nlay 3"


def is_whole_text(lines):
    """Whether these lines are a game's text, straight by the words of [23]."""
    kinds = "".join(line.partition(" ")[0][:1] if line else "?" for line in lines)
    if not re.fullmatch("p(l*)rsh([lp]*)", kinds):
        return False
    at = kinds.index("r")
    head = re.fullmatch(f"points {NUMBER}", lines[0])
    if not head or len(head[1]) > 2 or not 1 <= int(head[1]) <= 36:
        return False
    many = int(head[1])
    pairs = [re.fullmatch(f"line {NUMBER} {NUMBER}", line) for line in lines[1:at]]
    if None in pairs or any(len(number) > 2 for pair in pairs for number in pair.groups()):
        return False
    pairs = [(int(pair[1]), int(pair[2])) for pair in pairs]
    if pairs != sorted(set(pairs)) or not all(one < other < many for one, other in pairs):
        return False
    if lines[at] not in ("rule stones", "rule turns") or lines[at + 2] not in ("hand 1", "hand 2"):
        return False
    if not re.fullmatch(r"stand [.xo]{" + str(many) + "}", lines[at + 1]):
        return False
    board = joined(many, pairs)
    stand = tuple(".xo".index(sign) for sign in lines[at + 1][6:])
    return slow_sound(board, stand) and can_be_done(board, lines[at][5:], stand, int(lines[at + 2][5:]), lines[at + 3:])


def can_be_done(board, rule, stand, hand, lines):
    game = SlowGame(board, rule, stand, hand)
    for line in lines:
        told = re.fullmatch(f"lay {NUMBER}|pass", line)
        if not told or told[1] and (len(told[1]) > 2 or int(told[1]) >= len(board)):
            return False
        what = int(told[1]) if told[1] else None
        if game.refusal(what, game.moments()):
            return False
        game.deeds.append(what)
    return True


def is_begin(lines):
    """Whether some game's text begins with these lines: then one does that goes on in the plainest way."""
    many = re.fullmatch("points ([0-9]{1,2})", lines[0])
    rest = ["rule stones", "stand " + "." * int(many[1] if many else 1), "hand 1"]
    return any(is_whole_text(lines + rest[left:]) for left in range(4))


def slow_line(text):
    """The line at which the text is refused, or None where it is a game's."""
    lines = text.split("\n")
    for number in range(len(lines)):
        if not is_begin(lines[:number + 1]):
            return number
    return None if is_whole_text(lines) else len(lines)


def played(board, rule, stand, hand, deeds):
    game = Game(board, rule, stand, hand)
    for what in deeds:
        game.deed(what)
    return game


def by_chance(chance, board, rule, fullness, deeds):
    game = Game(board, rule, chance_stand(chance, board, fullness), chance.choice((1, 2)))
    while game.ended() is None and len(game.deeds()) < deeds:
        lays = game.open_deeds()[:-1]
        game.deed(chance.choice(lays) if lays and chance.randrange(8) else None)
    return game


class TextCase(Case):
    def same_game(self, one, two):
        self.same((one.board(), one.rule(), one.begin()), (two.board(), two.rule(), two.begin()))
        self.same((one.stands(), one.deeds(), one.hand()), (two.stands(), two.deeds(), two.hand()))
        self.same((one.open_deeds(), one.ended()), (two.open_deeds(), two.ended()))
        self.same((one.lost(1), one.lost(2)), (two.lost(1), two.lost(2)))

    def goes_round(self, game):
        """The text, which is read as the same game, and written as the very text."""
        text = self.asked(show_game, game)
        self.assertIs(type(text), str)
        read = read_game(text)
        self.assertIs(type(read), Game)
        self.same_game(read, game)
        self.same(show_game(read), text)
        return text

    def refused_at(self, line, text):
        for time in (1, 2):
            try:
                read_game(text)
            except NoText as e:
                self.assertIs(type(e), NoText)
                self.same(e.line, line)
            else:
                self.fail(f"{text!r} was read")

    def looks_at(self, text):
        """The line at which it is refused, told twice; a text that is let by is written as it was."""
        line = slow_line(text)
        if line is None:
            self.same(show_game(read_game(text)), text)
        else:
            self.refused_at(line, text)
        return line


class ShowTest(TextCase):
    def test_games_without_lines(self):
        self.asks("points 1\nrule stones\nstand .\nhand 1", show_game, Game(((),), "stones", (0,), 1))
        self.asks("points 3\nrule turns\nstand ...\nhand 2", show_game, Game(((), (), ()), "turns", (0, 0, 0), 2))
        self.asks("points 1\nrule turns\nstand .\nhand 2\npass\npass", show_game,
                  played(((),), "turns", (0,), 2, [None, None]))

    def test_a_game_with_deeds_of_every_kind(self):
        self.asks(PLAIN, show_game, played(path_board(4), "stones", (0, 1, 2, 0), 2, [0, None, 3]))

    def test_lines_are_sorted_by_numbers_not_by_signs(self):
        text = show_game(Game(joined(12, [(10, 11), (2, 11), (2, 10), (2, 3), (0, 9), (0, 10)]), "turns", (0,) * 12, 1))
        self.same(text.split("\n")[:7], [
            "points 12", "line 0 9", "line 0 10", "line 2 3", "line 2 10", "line 2 11", "line 10 11",
        ])

    def test_signs_of_the_begin_not_of_the_moment(self):
        game = played(path_board(3), "stones", (1, 0, 0), 2, [1])
        self.same(game.stand(), (0, 2, 0))
        self.same(show_game(game), "points 3\nline 0 1\nline 1 2\nrule stones\nstand x..\nhand 2\nlay 1")

    def test_deeds_taken_back_are_not_written(self):
        game = played(path_board(3), "stones", (1, 0, 0), 2, [None, None])
        game.back()
        game.back()
        self.same(show_game(game).split("\n")[-1], "hand 2")
        game.deed(1)
        self.same(show_game(game).split("\n")[-1], "lay 1")

    def test_showing_changes_nothing(self):
        game = played(path_board(4), "stones", (0, 1, 2, 0), 2, [0, None])
        show_game(game)
        self.same_game(game, played(path_board(4), "stones", (0, 1, 2, 0), 2, [0, None]))


class ReadTest(TextCase):
    def test_a_game_with_deeds_of_every_kind(self):
        self.same_game(read_game(PLAIN), played(path_board(4), "stones", (0, 1, 2, 0), 2, [0, None, 3]))

    def test_either_rule_and_either_hand(self):
        for rule, hand in itertools.product(RULES, (1, 2)):
            game = read_game(f"points 2\nline 0 1\nrule {rule}\nstand ..\nhand {hand}")
            self.same((game.rule(), game.hand(), game.begin()), (rule, hand, ((0, 0), hand)))

    def test_two_games_of_one_text_have_nothing_in_common(self):
        one, two = read_game(PLAIN), read_game(PLAIN)
        one.back()
        one.back()
        self.same(show_game(two), PLAIN)
        self.same(show_game(read_game(PLAIN)), PLAIN)
        two.deed(None)
        self.same(show_game(one), PLAIN[:-len("\npass\nlay 3")])

    def test_a_game_that_was_read_goes_on(self):
        game = read_game("points 2\nline 0 1\nrule stones\nstand ..\nhand 1\nlay 0\nlay 1")
        self.same(game.open_deeds(), [None])
        game.deed(None)
        game.deed(None)
        self.same(self.goes_round(game).split("\n")[4:], ["hand 1", "lay 0", "lay 1", "pass", "pass"])

    def test_all_small_ones(self):
        for board in small_boards(3):
            for stand in sound_stands(board):
                for rule, hand in itertools.product(RULES, (1, 2)):
                    game = Game(board, rule, stand, hand)
                    self.goes_round(game)
                    for what in game.open_deeds():
                        self.goes_round(played(board, rule, stand, hand, [what]))

    def test_some_of_greater_boards(self):
        chance = random.Random(1)
        boards = [grid_board(6, 6), grid_board(4, 3), path_board(36), ((),) * 36, path_board(5)]
        texts = {}
        for board in boards + list(chance_boards(2, 12, 12, 0, 40)) + list(chance_boards(3, 6, 30, 0, 200)):
            for rule in RULES:
                game = by_chance(chance, board, rule, chance.choice((0, 3, 6)), 30)
                text = self.goes_round(game)
                texts[text] = (game.board(), game.rule(), game.begin(), tuple(game.deeds()))
        # Each game has just one text, and each text is of just one game.
        self.same(len(set(texts.values())), len(texts))

    def test_three_hundred_deeds(self):
        for rule in RULES:
            chance = random.Random(4)
            game = Game(grid(5, 4), rule, (0,) * 20, 1)
            while game.ended() is None:
                game.deed(chance.choice(game.open_deeds()[:-1] or [None]))
            self.same((game.ended(), len(game.deeds())), ("long", 300))
            text = self.goes_round(game)
            many = len(text.split("\n"))
            for line in ("pass", "lay 0", "lay 99", ""):
                self.refused_at(many, text + "\n" + line)


class RefusedTest(TextCase):
    def test_what_is_no_text(self):
        things = (None, True, False, 0, 5, GREAT, 1.5, [], (), {}, [PLAIN], (PLAIN,), PLAIN.encode(), PLAIN.split("\n"))
        for thing in things:
            self.refused_at(0, thing)

    def test_an_empty_text_and_line_feeds(self):
        self.refused_at(0, "")
        self.refused_at(0, " ")
        self.refused_at(0, "\n")
        self.refused_at(0, "\n\n\n")
        self.refused_at(0, "\n" + PLAIN)
        self.refused_at(10, PLAIN + "\n")
        self.refused_at(7, "\n".join(PLAIN.split("\n")[:7]) + "\n")
        self.refused_at(3, "points 2\nline 0 1\nrule stones\n")

    def test_a_text_that_is_too_short(self):
        lines = PLAIN.split("\n")
        for many in range(1, 7):
            self.refused_at(many, "\n".join(lines[:many]))
        for many in range(7, 11):
            self.same(show_game(read_game("\n".join(lines[:many]))), "\n".join(lines[:many]))

    def test_a_line_left_out(self):
        self.left_out(0, 0)
        self.left_out(4, 4)
        self.left_out(5, 5)
        self.left_out(6, 6)
        # Without the line from 0 to 1 the stone on 1 has no breath: the line of the stand, now line 4, is refused.
        self.left_out(1, 4)
        # Without the lay on 0, or that on 3, there is a game too.
        self.left_out(7, None)
        self.left_out(9, None)

    def left_out(self, number, wanted):
        lines = PLAIN.split("\n")
        self.same(self.looks_at("\n".join(lines[:number] + lines[number + 1:])), wanted)

    def test_a_line_doubled(self):
        lines = PLAIN.split("\n")
        for number, wanted in ((0, 1), (1, 2), (2, 3), (3, 4), (4, 5), (5, 6), (6, 7), (7, 8), (8, 10), (9, 10)):
            self.same(self.looks_at("\n".join(lines[:number + 1] + lines[number:])), wanted)

    def test_two_lines_exchanged(self):
        lines = PLAIN.split("\n")
        for number, wanted in ((0, 0), (1, 2), (2, 3), (3, 4), (4, 4), (5, 5), (6, 6)):
            changed = lines[:number] + [lines[number + 1], lines[number]] + lines[number + 2:]
            self.same(self.looks_at("\n".join(changed)), wanted)

    def changed(self, number, *others):
        """The text with another line in the place of this one is refused at it."""
        for other in others:
            lines = PLAIN.split("\n")
            lines[number] = other
            self.assertEqual(slow_line("\n".join(lines)), number, other)
            self.refused_at(number, "\n".join(lines))

    def test_the_points(self):
        self.changed(
            0, "points", "points ", "points 0", "points 37", "points -4", "points +4", "points 04", "points 4 ",
            " points 4", "points  4", "points 4 4", "Points 4", "point 4", "points four", "points 4.0", "points x",
            f"points {GREAT}", "points " + "9" * 61, "points " + "1" * 3000, "points4", "4",
        )
        for many in (1, 2, 9, 10, 35, 36):
            self.goes_round(Game(((),) * many, "stones", (0,) * many, 1))
        for many in (0, 37, 40, 100):
            self.refused_at(0, f"points {many}\nrule stones\nstand {'.' * many}\nhand 1")

    def test_the_lines(self):
        self.changed(
            2, "line", "line 1", "line 1 2 3", "line 2 1", "line 1 1", "line 1 4", "line 4 5", "line 0 1",
            "line 01 2", "line 1 02", "line  1 2", "line 1  2", " line 1 2", "line 1 2 ", "line -1 2", "line a 2",
            "line 1 " + str(GREAT), "line 1 b", "lines 1 2", "line 1,2", "1 2", "", "pass", "lay 1", "hand 1",
        )
        self.changed(3, "line 1 2", "line 0 1", "line 0 3", "line 2 4")
        self.changed(1, "line 00 1", "line 1 0", "rule", "stand .xo.")

    def test_the_rule(self):
        self.changed(
            4, "rule", "rule ", "rule stone", "rule Stones", "rule turn", "rule stones ", "rule  stones",
            "rules stones", " rule stones", "rule stones turns", "rule 1", "stones", "line 3 4", "line 3 3", "hand 2",
            "pass", "",
        )

    def test_the_stand(self):
        self.changed(
            5, "stand", "stand ", "stand .xo", "stand .xo..", "stand .XO.", "stand .x0.", "stand 0120", "stand .xo. ",
            "stand  .xo.", " stand .xo.", "stand .x o.", "stands .xo.", ".xo.", "stand xxxx", "stand xo..", "",
            "pass", "stand oxo.", "stand .xox", "stand ....\t", "stand .xo.o", "hand 2", "rule stones",
        )

    def test_the_hand(self):
        self.changed(
            6, "hand", "hand ", "hand 0", "hand 3", "hand 01", "hand 1 2", "hand  2", "hand 2 ", " hand 2", "hand x",
            "hands 2", "2", "", "pass", "lay 0", "hand -1", "hand 12", f"hand {GREAT}",
        )

    def test_the_deeds(self):
        self.changed(
            7, "lay", "lay ", "lay 4", "lay -1", "lay 00", "lay 0 ", " lay 0", "lay  0", "lay 0 1", "lay x",
            "lay None",
        )
        self.changed(
            8, "pass ", " pass", "pass 1", "Pass", "passed", "", "back", "none", "hand 1", "line 0 1", f"lay {GREAT}",
        )
        # Not free; without a breath; the stand of the begin again.
        self.changed(7, "lay 1", "lay 2")
        self.changed(9, "lay 0", "lay 2")
        self.changed(8, "lay 3", "lay 1")

    def test_a_deed_that_can_not_be_done(self):
        head = "points 2\nline 0 1\nrule stones\nstand ..\nhand 1\n"
        self.refused_at(7, head + "lay 0\nlay 1\nlay 0")
        self.refused_at(6, head + "lay 0\nlay 0")
        self.refused_at(5, "points 2\nrule stones\nstand ..\nhand 1\npass\nlay 0")
        path = "points 3\nline 0 1\nline 1 2\nrule RULE\nstand ...\nhand 1\nlay 0\nlay 2\nlay 1\nlay 2\nlay 0"
        self.refused_at(10, path.replace("RULE", "stones"))
        self.same(self.looks_at(path.replace("RULE", "turns")), None)

    def test_a_deed_behind_the_end(self):
        head = "points 3\nline 0 1\nrule turns\nstand ...\nhand 2\nlay 0\npass\npass"
        self.same(self.looks_at(head), None)
        for line in ("pass", "lay 1", "lay 0", "lay 2", "lay 3", "back", ""):
            self.refused_at(8, head + "\n" + line)

    def test_each_sign(self):
        for sign in [chr(number) for number in range(32, 127)]:
            self.same(self.looks_at(PLAIN.replace(".xo.", ".x." + sign)) != 5, sign in ".xo")
            self.same(self.looks_at(PLAIN.replace("lay 0", "lay " + sign)) is None, sign == "0")
            self.same(self.looks_at(PLAIN.replace("points 4", "points 4" + sign)), 0)
            self.same(self.looks_at(PLAIN.replace("hand 2", "hand " + sign)) in (None, 7), sign in "12")

    def test_the_first_line_counts_where_several_are_wrong(self):
        self.refused_at(0, "points 0\nline 1 0\nrule x")
        self.refused_at(1, "points 3\nline 1 0\nrule x\nstand ....")
        self.refused_at(2, "points 3\nline 0 1\nrule x\nstand ....")
        self.refused_at(3, "points 3\nline 0 1\nrule turns\nstand ....\nhand 0")
        self.refused_at(4, "points 3\nline 0 1\nrule turns\nstand ...\nhand 0\nlay 9")
        # The stone on 2 has no breath: that shows at the stand, not only behind the hand.
        self.refused_at(3, "points 3\nline 0 1\nrule turns\nstand ..x")
        self.refused_at(3, "points 3\nline 0 1\nrule turns\nstand ..x\nhand 1")

    def test_other_feeds_and_blanks(self):
        self.refused_at(0, PLAIN.replace("\n", "\r\n"))
        self.refused_at(0, PLAIN.replace("\n", "\r"))
        self.refused_at(0, PLAIN.replace(" ", "\t"))
        self.refused_at(0, PLAIN.replace("\n", " "))
        self.refused_at(0, PLAIN.replace("4", "\u0664", 1))
        self.refused_at(5, PLAIN.replace("\nstand", "\n\nstand"))

    def test_texts_changed_by_chance(self):
        chance = random.Random(7)
        boards = [path_board(2), path_board(4), grid_board(3, 2), ((), (), ()), path_board(12)]
        boards += list(chance_boards(5, 6, 5, 3, 9))
        met = {}
        for board in boards * 3:
            text = show_game(by_chance(chance, board, chance.choice(RULES), chance.choice((0, 5)), 6))
            for time in range(60):
                line = self.looks_at(changed_by_chance(chance, text))
                met[line] = met.get(line, 0) + 1
        self.assertLessEqual({None, *range(10)}, set(met))

    def test_hands_exchanged(self):
        chance = random.Random(8)
        turned = {"x": "o", "o": "x", "1": "2", "2": "1", ".": "."}
        for board in chance_boards(6, 10, 6, 6, 12):
            game = by_chance(chance, board, "stones", 4, 12)
            stand, hand = game.begin()
            other = played(board, "stones", exchanged_stand(stand), 3 - hand, game.deeds())
            lines = show_game(game).split("\n")
            at = lines.index("rule stones") + 1
            lines[at] = "stand " + "".join(turned[sign] for sign in lines[at][6:])
            lines[at + 1] = "hand " + turned[lines[at + 1][5:]]
            self.same(self.goes_round(other), "\n".join(lines))


def changed_by_chance(chance, text):
    """One small change of lines or of signs."""
    lines = text.split("\n")
    at = chance.randrange(len(lines))
    how = chance.randrange(8)
    if how == 0:
        return "\n".join(lines[:at] + lines[at + 1:])
    if how == 1:
        return "\n".join(lines[:at] + [lines[at]] + lines[at:])
    if how == 2:
        other = chance.randrange(len(lines))
        lines[at], lines[other] = lines[other], lines[at]
        return "\n".join(lines)
    if how == 3:
        more = ["pass", "lay 0", "lay 1", "line 0 1", "line 0 3", "rule turns", "hand 1", "", "stand .."]
        return "\n".join(lines[:at] + [chance.choice(more)] + lines[at:])
    if how == 4:
        return "\n".join(lines[:at + 1])
    place = chance.randrange(len(text))
    sign = chance.choice("0123456789 .xo\nlp")
    return text[:place] + sign + text[place + (how > 5):]


if __name__ == "__main__":
    unittest.main()
