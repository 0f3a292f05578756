"""The errors (point 7)."""

import unittest

from backseen.errors import BadValue, NotPossible, SeenError, TextError, TooLarge


class Errors(unittest.TestCase):
    def test_point_7_all_are_below_seen_error(self):
        self.assertTrue(issubclass(SeenError, ValueError))
        below = (BadValue, TooLarge, NotPossible, TextError)
        for error in below:
            self.assertTrue(issubclass(error, SeenError))
            self.assertEqual([other for other in below if issubclass(error, other)], [error])

    def test_point_7_attributes(self):
        self.assertEqual(BadValue("k").name, "k")
        self.assertEqual(TooLarge("pairs").what, "pairs")
        self.assertEqual(NotPossible("word").why, "word")
        error = TextError(3, "a word is expected")
        self.assertEqual((error.column, error.problem), (3, "a word is expected"))

    def test_point_7_can_be_raised_and_told(self):
        for error in (BadValue("k"), TooLarge("pairs"), NotPossible("word"), TextError(0, "x"), SeenError()):
            with self.assertRaises(SeenError) as caught:
                raise error
            self.assertIs(caught.exception, error)
            self.assertIsInstance(str(error), str)


if __name__ == "__main__":
    unittest.main()
