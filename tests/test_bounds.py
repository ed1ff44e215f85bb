"""Promise [16]: the bounds."""

import unittest

from firstfuse import bounds


class BoundsTest(unittest.TestCase):
    def check(self, bound, number):
        self.assertIs(int, type(bound))
        self.assertEqual(number, bound)

    def test_max_fuses(self):
        self.check(bounds.MAX_FUSES, 20)

    def test_max_lamps(self):
        self.check(bounds.MAX_LAMPS, 30)

    def test_max_load(self):
        self.check(bounds.MAX_LOAD, 3000)

    def test_max_draw(self):
        self.check(bounds.MAX_DRAW, 100)

    def test_max_story(self):
        self.check(bounds.MAX_STORY, 40)

    def test_max_small(self):
        self.check(bounds.MAX_SMALL, 6)

    def test_max_small_lamps(self):
        self.check(bounds.MAX_SMALL_LAMPS, 6)

    def test_max_edits(self):
        self.check(bounds.MAX_EDITS, 60)


if __name__ == "__main__":
    unittest.main()
