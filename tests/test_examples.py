"""The examples of the interface, as they are written there."""

import doctest
import os
import unittest

FOLDER = os.path.join(os.path.dirname(os.path.abspath(__file__)), "examples")


class Examples(unittest.TestCase):
    def test_point_9_examples_of_the_interface(self):
        names = sorted(os.listdir(FOLDER))
        self.assertEqual(
            names,
            [
                f"{name}.txt"
                for name in (
                    "building cases comparing counting errors fewest learning looking mirrors papers rounds scanning"
                    " sides single teaching telling towers undecided windows words writing"
                ).split()
            ],
        )
        for name in names:
            failed, tried = doctest.testfile(os.path.join(FOLDER, name), module_relative=False)
            self.assertEqual(failed, 0, name)
            self.assertGreater(tried, 0, name)


if __name__ == "__main__":
    unittest.main()
