import unittest

from stonebreath import errors
from stonebreath.errors import Again, NoText, StoneError

NAMES = (
    "NoBoard", "NoStand", "NoLay", "NoBreath", "Again", "Over", "NoBack", "TooMuch", "NoText", "NoRow", "NoPoint",
)


def refusal(name):
    return getattr(errors, name)


def made(name):
    return refusal(name)(7) if name in ("Again", "NoText") else refusal(name)("words")


class ErrorsTest(unittest.TestCase):
    def test_stone_error_is_straight_under_value_error(self):
        self.assertEqual(StoneError.__bases__, (ValueError,))

    def test_each_refusal_is_straight_under_stone_error(self):
        for name in NAMES:
            self.assertEqual(refusal(name).__bases__, (StoneError,), name)
            self.assertEqual(refusal(name).__name__, name)

    def test_no_refusal_is_taken_for_another_one(self):
        for one in NAMES:
            for other in NAMES:
                self.assertEqual(isinstance(made(one), refusal(other)), one == other)

    def test_each_is_taken_as_a_stone_error_and_as_a_value_error(self):
        for name in NAMES:
            for error in (refusal(name), StoneError, ValueError):
                with self.assertRaises(error):
                    raise made(name)

    def test_again_has_its_number(self):
        for number in (0, 1, 299):
            self.assertEqual(Again(number).number, number)
        one, other = Again(3), Again(4)
        self.assertEqual((one.number, other.number), (3, 4))

    def test_no_text_has_its_line(self):
        for line in (0, 1, 500):
            self.assertEqual(NoText(line).line, line)
        one, other = NoText(3), NoText(4)
        self.assertEqual((one.line, other.line), (3, 4))

    def test_the_fields_are_still_there_where_they_are_taken(self):
        with self.assertRaises(StoneError) as taken:
            raise Again(12)
        self.assertEqual(taken.exception.number, 12)
        with self.assertRaises(StoneError) as taken:
            raise NoText(34)
        self.assertEqual(taken.exception.line, 34)


if __name__ == "__main__":
    unittest.main()
