"""The classes of refusals."""

import unittest

from mazeguide import errors
from mazeguide.errors import MazeError

SIX = ["NoMaze", "NoRoom", "NoKey", "TooMany", "NoDoor", "Shut"]


class Errors(unittest.TestCase):
    def test_maze_error_is_a_value_error(self):
        self.assertEqual(MazeError.__bases__, (ValueError,))

    def test_each_refusal_is_a_maze_error_and_none_of_the_others(self):
        for name in SIX:
            with self.subTest(name):
                self.assertEqual(getattr(errors, name).__bases__, (MazeError,))

    def test_the_six_are_six(self):
        self.assertEqual(len({getattr(errors, name) for name in SIX}), 6)

    def test_each_can_be_raised_and_caught_as_any_refusal(self):
        for name in SIX:
            with self.subTest(name), self.assertRaises(MazeError):
                raise getattr(errors, name)("why")


if __name__ == "__main__":
    unittest.main()
