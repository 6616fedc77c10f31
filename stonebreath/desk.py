"""The desk: a game that is told rows of words, and answers texts."""

from stonebreath.chases import chase
from stonebreath.common import number_of, other_hand
from stonebreath.counts import by_land, by_stones
from stonebreath.ends import worked
from stonebreath.errors import NoPoint, NoRow
from stonebreath.safety import safe, taking
from stonebreath.texts import read_game, show_game, signs_of


def do_lay(game, numbers):
    game.deed(numbers[0])
    return "ok"


def do_pass(game, numbers):
    game.deed(None)
    return "ok"


def do_back(game, numbers):
    game.back()
    return "ok"


def tell_text(game, numbers):
    return show_game(game)


def tell_stand(game, numbers):
    return signs_of(game.stand())


def tell_deeds(game, numbers):
    return listed(["pass" if what is None else what for what in game.open_deeds()])


def tell_count(game, numbers):
    return listed(by_stones(game.board(), game.stand())) + " / " + listed(by_land(game))


def tell_ended(game, numbers):
    how = game.ended()
    return "no" if how is None else how


def tell_safe(game, numbers):
    return safe_rows(game, 1) + " / " + safe_rows(game, 2)


def tell_taking(game, numbers):
    points = taking(game.board(), game.stand(), numbers[0])
    return "safe" if points is None else listed(points)


def tell_chase(game, numbers):
    stand = game.stand()
    hunter = other_hand(stand[numbers[0]])
    return chase(game.board(), stand, hunter, numbers[0], numbers[1])[0]


def tell_worth(game, numbers):
    return str(worked(game.board(), game.stand(), game.hand(), numbers[0])[0])


def listed(things):
    return " ".join([str(thing) for thing in things]) if things else "none"


def safe_rows(game, hand):
    paper = safe(game.board(), game.stand(), hand)
    return listed([",".join([str(point) for point in row]) for row in paper[0]])


ANSWERS = {
    "lay": do_lay, "pass": do_pass, "back": do_back, "show": tell_text, "stand": tell_stand, "open": tell_deeds,
    "count": tell_count, "ended": tell_ended, "safe": tell_safe, "taking": tell_taking, "chase": tell_chase,
    "worth": tell_worth,
}
# How many numbers stand behind a first word (none where it isn't here), and what bounds the last of them.
MANY_NUMBERS = {"lay": 1, "taking": 1, "chase": 2, "worth": 1}
BOUNDS = {"chase": (1, 5), "worth": (0, 6)}


class Desk:
    def __init__(self, text):
        self.game = read_game(text)

    def say(self, row):
        words = row.split(" ") if isinstance(row, str) else [""]
        numbers = numbers_behind(words)
        look_at_point(self.game, words[0], numbers)
        return ANSWERS[words[0]](self.game, numbers)


def numbers_behind(words):
    if words[0] not in ANSWERS or len(words) != 1 + MANY_NUMBERS.get(words[0], 0):
        raise NoRow("no such row, or too few or too many words in it")
    numbers = [number_of(word) for word in words[1:]]
    if None in numbers:
        raise NoRow("a number is badly written")
    if words[0] in BOUNDS and not BOUNDS[words[0]][0] <= numbers[-1] <= BOUNDS[words[0]][1]:
        raise NoRow("the last number is out of its bounds")
    return numbers


def look_at_point(game, word, numbers):
    if word in ("lay", "taking", "chase") and numbers[0] >= len(game.board()):
        raise NoPoint("the board hasn't this point")
    if word in ("taking", "chase") and game.stand()[numbers[0]] == 0:
        raise NoPoint("no stone lies on this point")
