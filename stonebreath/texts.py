"""Texts: a game written in lines, and read back from them."""

from stonebreath.boards import MOST_POINTS, board_of
from stonebreath.common import number_of
from stonebreath.errors import Again, NoBreath, NoLay, NoText, Over
from stonebreath.games import Game
from stonebreath.rows import is_sound

SIGNS = ".xo"
RULES = ("stones", "turns")
HANDS = ("1", "2")


def show_game(game):
    begin = game.begin()
    head = ["rule " + game.rule(), "stand " + signs_of(begin[0]), "hand " + str(begin[1])]
    return "\n".join(board_lines(game.board()) + head + [deed_line(what) for what in game.deeds()])


def board_lines(board):
    lines = ["points " + str(len(board))]
    for point in range(len(board)):
        lines.extend([f"line {point} {beside}" for beside in board[point] if point < beside])
    return lines


def signs_of(stand):
    return "".join([SIGNS[what] for what in stand])


def deed_line(what):
    return "pass" if what is None else f"lay {what}"


# Wherever a line is looked at, all ahead of it were let by, and a text that is too short goes on with an empty line:
# so the number of the line looked at is what its refusal tells, also where there is no such line any more.
def read_game(text):
    lines = text.split("\n") if isinstance(text, str) else []
    many = read_many(lines)
    pairs = read_pairs(lines, many)
    board = board_of(many, pairs)
    at = 1 + len(pairs)
    rule = read_one_of(lines, at, "rule", RULES)
    stand = read_stand(lines, at + 1, board)
    hand = int(read_one_of(lines, at + 2, "hand", HANDS))
    game = Game(board, rule, stand, hand)
    for number in range(at + 3, len(lines)):
        do_line(game, lines, number)
    return game


def words_at(lines, number):
    line = lines[number] if number < len(lines) else ""
    return line.split(" ")


def read_word(lines, number, first):
    words = words_at(lines, number)
    if len(words) != 2 or words[0] != first:
        raise NoText(number)
    return words[1]


def read_one_of(lines, number, first, known):
    word = read_word(lines, number, first)
    if word not in known:
        raise NoText(number)
    return word


def read_many(lines):
    many = number_of(read_word(lines, 0, "points"))
    if many is None or not 1 <= many <= MOST_POINTS:
        raise NoText(0)
    return many


# The line at which the pairs end, whatever it is, is left to the reading of the rule, that lets it by or refuses it.
def read_pairs(lines, many):
    pairs = []
    pair = pair_of(words_at(lines, 1), many)
    while pair is not None and (pairs == [] or pairs[-1] < pair):
        pairs.append(pair)
        pair = pair_of(words_at(lines, 1 + len(pairs)), many)
    return pairs


def pair_of(words, many):
    if len(words) != 3 or words[0] != "line":
        return None
    one = number_of(words[1])
    other = number_of(words[2])
    if one is None or other is None or not one < other < many:
        return None
    return (one, other)


def read_stand(lines, number, board):
    signs = read_word(lines, number, "stand")
    if len(signs) != len(board) or not all([sign in SIGNS for sign in signs]):
        raise NoText(number)
    stand = tuple([SIGNS.index(sign) for sign in signs])
    if not is_sound(board, stand):
        raise NoText(number)
    return stand


def do_line(game, lines, number):
    what = None if lines[number] == "pass" else read_point(game.board(), lines, number)
    try:
        game.deed(what)
    except (Again, NoBreath, NoLay, Over):
        raise NoText(number)


def read_point(board, lines, number):
    point = number_of(read_word(lines, number, "lay"))
    if point is None or point >= len(board):
        raise NoText(number)
    return point
