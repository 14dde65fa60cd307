"""Point 17: rings of letters, and round words; point 2."""

import copy
import unittest

from boughturn.belows import below
from boughturn.rings import rings, round_word
from tests.oracle import all_words, rings_of, word_below
from tests.samples import COUNT_THREE, COUNT_TWO, FIRST, MIXED_FOUR, MIXED_THREE, NO_ROWS, TABLES, turners

# The letters turned round in several ways: 0 2 1 3, then 0 1, 2 3, then 0 3 2 with 1 alone.
FOUR = (4, (
    ((2, 3, 1, 0), (1, 2, 0, -3)), ((1, 0, 3, 2), (-1, 1, 2, 0)), ((3, 1, 0, 2), (3, 0, -2, 3)),
))


class RingsTests(unittest.TestCase):

    def test_two_letters(self):
        self.assertEqual(rings(COUNT_TWO, [1]), [[0, 1]])
        self.assertEqual(rings(COUNT_TWO, [1, 1]), [[0], [1]])
        self.assertEqual(rings(FIRST, [2]), [[0], [1]])

    def test_three_letters(self):
        self.assertEqual(rings(COUNT_THREE, [1]), [[0, 1, 2]])
        self.assertEqual(rings(COUNT_THREE, [-1]), [[0, 2, 1]])
        self.assertEqual(rings(COUNT_THREE, [1, 1]), [[0, 2, 1]])
        self.assertEqual(rings(MIXED_THREE, [3]), [[0], [1, 2]])
        self.assertEqual(rings(MIXED_THREE, [1, 3]), [[0, 2], [1]])
        self.assertEqual(rings(MIXED_THREE, [3, 1]), [[0, 1], [2]])

    def test_four_letters(self):
        self.assertEqual(rings(FOUR, [1]), [[0, 2, 1, 3]])
        self.assertEqual(rings(FOUR, [-1]), [[0, 3, 1, 2]])
        self.assertEqual(rings(FOUR, [2]), [[0, 1], [2, 3]])
        self.assertEqual(rings(FOUR, [3]), [[0, 3, 2], [1]])
        self.assertEqual(rings(FOUR, [1, 1]), [[0, 1], [2, 3]])
        self.assertEqual(rings(FOUR, [2, 2]), [[0], [1], [2], [3]])

    def test_no_turners(self):
        for table in TABLES:
            self.assertEqual(rings(table, []), [[letter] for letter in range(table[0])])
        self.assertEqual(rings(NO_ROWS, []), [[0], [1], [2]])

    def test_as_going_round(self):
        for table in (*TABLES, FOUR):
            for word in all_words(turners(table)[:3] + turners(table)[-2:], 3):
                self.assertEqual(rings(table, word), rings_of(table, word))


class RoundWordTests(unittest.TestCase):

    def test_told_words(self):
        self.assertEqual(round_word(COUNT_TWO, [1], [0, 1]), [1])
        self.assertEqual(round_word(FIRST, [1, 2], [0, 1]), [3, 1])
        self.assertEqual(round_word(FIRST, [2], [0]), [1])
        self.assertEqual(round_word(FIRST, [4], [0]), [])
        self.assertEqual(round_word(FOUR, [1], [0, 2, 1, 3]), [1, 2, -3])
        self.assertEqual(round_word(FOUR, [3], [0, 3, 2]), [3, 3, -2])
        self.assertEqual(round_word(FOUR, [3], [1]), [])

    def test_not_tidied(self):
        self.assertEqual(round_word(FOUR, [2], [0, 1]), [-1, 1])
        self.assertEqual(round_word(FIRST, [2, -2], [1]), [3, -3])
        self.assertEqual(round_word(FIRST, [2, 1, -2, 1], [0]), [1, -3])
        self.assertEqual(round_word(FIRST, [1, -1], [0]), [])

    def test_in_the_order_of_the_ring(self):
        self.assertEqual(round_word(MIXED_FOUR, [1], [0, 1, 2, 3]), [2, -1, 1])
        self.assertEqual(round_word(MIXED_FOUR, [1], [2, 3, 0, 1]), [-1, 1, 2])

    def test_letter_by_letter(self):
        for table in (*TABLES, FOUR):
            for word in all_words(turners(table)[:3] + turners(table)[-2:], 3):
                for ring in rings(table, word):
                    told = [turner for letter in ring for turner in word_below(table, word, letter)]
                    self.assertEqual(round_word(table, word, ring), told)

    def test_it_is_the_word_done_as_often_as_the_ring_is_long_below_its_first_letter(self):
        for table in (MIXED_THREE, MIXED_FOUR, FOUR):
            for word in all_words(turners(table), 2):
                for ring in rings(table, word):
                    self.assertEqual(round_word(table, word, ring), below(table, word * len(ring), ring[:1]))


class OwnListTests(unittest.TestCase):

    def test_what_was_handed_in_stays(self):
        word, ring = [1, 2, -3], [0, 2, 1]
        rings(FOUR, word)
        round_word(FOUR, word, ring)
        self.assertEqual((word, ring), ([1, 2, -3], [0, 2, 1]))

    def test_told_again_after_what_was_told_was_changed(self):
        for table, word in ((FOUR, [2]), (FOUR, [1]), (FOUR, []), (FIRST, [1, 2])):
            told = rings(table, word)
            first = copy.deepcopy(told)
            handed = round_word(table, word, first[0])
            kept = list(handed)
            handed.append(1)
            for ring in told:
                ring.append(0)
            told.append([])
            self.assertEqual(rings(table, word), first)
            self.assertEqual(round_word(table, word, first[0]), kept)


if __name__ == "__main__":
    unittest.main()
