"""Point 9: what words are below letters and ways; point 2."""

import unittest

from boughturn.belows import below, belows, letters_of
from tests.oracle import all_ways, all_words, word_below, word_leads
from tests.samples import COUNT_TWO, FIRST, MIXED_FOUR, MIXED_THREE, NO_ROWS, TABLES, turners


class BelowTests(unittest.TestCase):

    def test_turners_that_hand_on_0_are_left_out(self):
        self.assertEqual(below(FIRST, [1], [0]), [])
        self.assertEqual(below(FIRST, [2, 3, 4], [0]), [1, 1])
        self.assertEqual(below(FIRST, [4, 4, 2], [0]), [1])
        self.assertEqual(below(MIXED_THREE, [1, 1, 1], [0]), [-2, 1])
        self.assertEqual(below(COUNT_TWO, [1] * 60, [0]), [1] * 30)

    def test_the_next_turner_at_the_letter_that_was_made(self):
        self.assertEqual(below(FIRST, [1, 2], [0]), [3])
        self.assertEqual(below(FIRST, [2, 1, 2, 1], [0]), [1, 3])
        self.assertEqual(below(FIRST, [2, 1, 2, 1], [1]), [3, 1])
        self.assertEqual(below(MIXED_FOUR, [1, 2, -1, 1], [0]), [2, -2, -1, 1])

    def test_nothing_else_is_left_out(self):
        self.assertEqual(below(FIRST, [2, -2], [0]), [1, -1])
        self.assertEqual(below(FIRST, [2, -2], [1]), [3, -3])
        self.assertEqual(below(FIRST, [3, 3], [0]), [1, 1])

    def test_below_a_way(self):
        self.assertEqual(below(FIRST, [4], [1, 1, 1]), [4])
        self.assertEqual(below(FIRST, [4], [1, 0]), [1])
        self.assertEqual(below(FIRST, [4], [1, 0, 0]), [])
        self.assertEqual(below(FIRST, [2, 3, 4], [1, 1]), [4, 2, 3])
        self.assertEqual(below(FIRST, [2, 3, 4], [1] * 24), [2, 3, 4])

    def test_below_a_way_letter_by_letter(self):
        for table in TABLES:
            for word in all_words(turners(table)[:3] + turners(table)[-2:], 3):
                for way in all_ways(table, 2):
                    first = word_below(table, word, way[0])
                    self.assertEqual(below(table, word, way[:1]), first)
                    self.assertEqual(below(table, word, way), word_below(table, first, way[1]))

    def test_below_a_long_way(self):
        way = [0, 1, 2, 2, 1, 0, 0, 2] * 3
        word = [1, -2, 3, 2, -3, -1] * 10
        reached = list(word)
        for at, letter in enumerate(way):
            self.assertEqual(below(MIXED_THREE, word, way[:at]), reached)
            reached = word_below(MIXED_THREE, reached, letter)
        self.assertEqual(below(MIXED_THREE, word, way), reached)

    def test_below_no_letters_it_is_itself(self):
        for table in TABLES:
            for word in ([], turners(table), turners(table) * 3):
                told = below(table, word, [])
                self.assertEqual(told, word)
                self.assertIsNot(told, word)

    def test_no_more_turners_than_the_word(self):
        for table in TABLES:
            word = turners(table) * 3
            for way in all_ways(table, 3):
                self.assertLessEqual(len(below(table, word, way)), len(word))


class LettersAndBelowsTests(unittest.TestCase):

    def test_letters(self):
        self.assertEqual(letters_of(FIRST, [1]), [1, 0])
        self.assertEqual(letters_of(FIRST, [2, 3]), [0, 1])
        self.assertEqual(letters_of(MIXED_THREE, [1, 3]), [2, 1, 0])
        self.assertEqual(letters_of(MIXED_THREE, [3, 1]), [1, 0, 2])
        self.assertEqual(letters_of(MIXED_FOUR, [-2]), [1, 3, 0, 2])

    def test_belows(self):
        self.assertEqual(belows(FIRST, [1]), [[], []])
        self.assertEqual(belows(FIRST, [2, 3, 4]), [[1, 1], [3, 4, 2]])
        self.assertEqual(belows(MIXED_THREE, [-1]), [[-1], [], [2]])
        self.assertEqual(belows(MIXED_FOUR, [1, -2]), [[2], [], [-1, -1], [1, 2]])

    def test_no_turners(self):
        for table in TABLES:
            self.assertEqual(letters_of(table, []), list(range(table[0])))
            self.assertEqual(belows(table, []), [[]] * table[0])

    def test_as_the_words_say(self):
        for table in TABLES:
            for word in all_words(turners(table)[:3] + turners(table)[-2:], 3):
                letters = range(table[0])
                self.assertEqual(letters_of(table, word), [word_leads(table, word, [k])[0] for k in letters])
                self.assertEqual(belows(table, word), [word_below(table, word, k) for k in letters])


class OwnListTests(unittest.TestCase):

    def test_what_was_handed_in_stays(self):
        word, way = [1, -2, 3], [2, 0, 1]
        below(MIXED_THREE, word, way)
        below(MIXED_THREE, word, [])
        letters_of(MIXED_THREE, word)
        belows(MIXED_THREE, word)
        self.assertEqual((word, way), ([1, -2, 3], [2, 0, 1]))

    def test_what_is_told_is_new(self):
        for word in ([], [1, -2, 3]):
            kept = list(word)
            for way in ([], [2, 0, 1]):
                told = below(MIXED_THREE, word, way)
                first = list(told)
                told.append(1)
                self.assertEqual(word, kept)
                self.assertEqual(below(MIXED_THREE, word, way), first)

    def test_lists_within_are_new(self):
        for table, word in ((MIXED_THREE, [1, -2]), (MIXED_THREE, []), (NO_ROWS, [])):
            told = belows(table, word)
            first = [list(handed) for handed in told]
            told[0].append(1)
            self.assertEqual(told[1:], first[1:])
            told.pop()
            self.assertEqual(belows(table, word), first)
            letters = letters_of(table, word)
            letters.reverse()
            self.assertEqual(letters_of(table, word), letters[::-1])


if __name__ == "__main__":
    unittest.main()
