"""Point 7: what a turner makes of a letter, and what it hands on."""

import unittest

from boughturn.turners import hands_on, makes
from tests.samples import COUNT_TWO, FIRST, MIXED_FOUR, MIXED_THREE, TABLES


class TurnerTests(unittest.TestCase):

    def check(self, table, turner, made, handed):
        letters = range(table[0])
        self.assertEqual([makes(table, turner, letter) for letter in letters], made)
        self.assertEqual([hands_on(table, turner, letter) for letter in letters], handed)

    def test_two_letters(self):
        self.check(COUNT_TWO, 1, [1, 0], [0, 1])
        self.check(COUNT_TWO, -1, [1, 0], [-1, 0])
        self.check(COUNT_TWO, 0, [0, 1], [0, 0])

    def test_the_first_table(self):
        self.check(FIRST, 1, [1, 0], [0, 0])
        self.check(FIRST, 2, [0, 1], [1, 3])
        self.check(FIRST, 3, [0, 1], [1, 4])
        self.check(FIRST, 4, [0, 1], [0, 2])
        self.check(FIRST, -2, [0, 1], [-1, -3])
        self.check(FIRST, -4, [0, 1], [0, -2])

    def test_three_letters(self):
        self.check(MIXED_THREE, 1, [1, 2, 0], [0, -2, 1])
        self.check(MIXED_THREE, -1, [2, 0, 1], [-1, 0, 2])
        self.check(MIXED_THREE, 2, [2, 0, 1], [2, 1, -1])
        self.check(MIXED_THREE, -2, [1, 2, 0], [-1, 1, -2])
        self.check(MIXED_THREE, 3, [0, 2, 1], [-3, 0, 2])
        self.check(MIXED_THREE, -3, [0, 2, 1], [3, -2, 0])

    def test_four_letters(self):
        self.check(MIXED_FOUR, 1, [1, 2, 3, 0], [2, 0, -1, 1])
        self.check(MIXED_FOUR, -1, [3, 0, 1, 2], [-1, -2, 0, 1])
        self.check(MIXED_FOUR, 2, [2, 0, 3, 1], [0, -2, 1, 0])
        self.check(MIXED_FOUR, -2, [1, 3, 0, 2], [2, 0, 0, -1])

    def test_0_does_nothing(self):
        for table in TABLES:
            self.check(table, 0, list(range(table[0])), [0] * table[0])

    def test_a_turner_and_its_contrary(self):
        for table in TABLES:
            for turner in range(1, len(table[1]) + 1):
                for letter in range(table[0]):
                    made = makes(table, turner, letter)
                    self.assertEqual(makes(table, -turner, made), letter)
                    self.assertEqual(hands_on(table, -turner, made), -hands_on(table, turner, letter))


if __name__ == "__main__":
    unittest.main()
