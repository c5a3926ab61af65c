"""Point [2]: the errors, their base, and what they keep."""

import unittest

from stillmay.errors import BadGame, BadLine, BadPaper, BadSide, BadValue, LeagueError, NothingThere, TooMany
from tests.helper import NO_STRINGS

ATTRIBUTES = {BadValue: "at", BadPaper: "at", BadLine: "at", BadGame: "number", BadSide: "name",
              TooMany: "word", NothingThere: "word"}


class ErrorsTest(unittest.TestCase):
    def test_bases(self):
        self.assertEqual((Exception,), LeagueError.__bases__)
        for error in ATTRIBUTES:
            self.assertEqual((LeagueError,), error.__bases__, error)

    def test_base_takes_no_argument(self):
        with self.assertRaises(LeagueError):
            raise LeagueError()

    def test_argument_is_kept_by_position_and_by_name(self):
        for error, attribute in ATTRIBUTES.items():
            for value in NO_STRINGS + ("", "games"):
                self.assertIs(value, getattr(error(value), attribute), error)
                self.assertIs(value, getattr(error(**{attribute: value}), attribute), error)

    def test_all_are_caught_by_the_base(self):
        for error in ATTRIBUTES:
            with self.assertRaises(LeagueError):
                raise error(1)

    def test_one_argument_is_due(self):
        for error in ATTRIBUTES:
            self.assertRaises(TypeError, error)


if __name__ == "__main__":
    unittest.main()
