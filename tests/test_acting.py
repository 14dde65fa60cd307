"""Point 8: how words lead ways; point 3 as far as it speaks of ways; point 2."""

import unittest

from boughturn.acting import led
from boughturn.belows import below
from boughturn.words import contrary
from tests.oracle import all_ways, all_words, word_leads
from tests.samples import COUNT_THREE, COUNT_TWO, FIRST, MIXED_FOUR, MIXED_THREE, NO_ROWS, TABLES, turners


def figures(number, base, many):
    """The number's figures, the least one first."""
    told = []
    for _ in range(many):
        told.append(number % base)
        number //= base
    return told


def long_word(table):
    """A word of sixty turners in which each one of the table occurs."""
    some = turners(table)
    return [some[(at * at + at // 3) % len(some)] for at in range(60)] if some else []


def long_way(table):
    return [(at * at + at // 5) % table[0] for at in range(24)]


class LedTests(unittest.TestCase):

    def test_the_first_table(self):
        self.assertEqual(led(FIRST, [1], [0, 1, 1]), [1, 1, 1])
        self.assertEqual(led(FIRST, [2], [0, 1, 1]), [0, 0, 1])
        self.assertEqual(led(FIRST, [2], [1, 0, 1]), [1, 0, 0])
        self.assertEqual(led(FIRST, [4], [1, 0, 1]), [1, 0, 0])
        self.assertEqual(led(FIRST, [4], [0, 0, 1]), [0, 0, 1])

    def test_the_first_turner_is_done_first(self):
        self.assertEqual(led(FIRST, [1, 2], [0, 0, 0]), [1, 0, 1])
        self.assertEqual(led(FIRST, [2, 1], [0, 0, 0]), [1, 1, 0])

    def test_counting(self):
        for table in (COUNT_TWO, COUNT_THREE):
            base = table[0]
            for number in (0, 1, 5, 80, 255, 1000, base ** 24 - 1, base ** 24 - 30):
                way = figures(number, base, 24)
                self.assertEqual(led(table, [1], way), figures(number + 1, base, 24))
                self.assertEqual(led(table, [-1], way), figures(number - 1, base, 24))
                self.assertEqual(led(table, [1] * 60, way), figures(number + 60, base, 24))
                self.assertEqual(led(table, [-1] * 60, way), figures(number - 60, base, 24))

    def test_no_letters(self):
        for table in TABLES:
            self.assertEqual(led(table, [], []), [])
            self.assertEqual(led(table, long_word(table), []), [])

    def test_no_turners(self):
        for table in TABLES:
            for way in all_ways(table, 2) + [long_way(table)]:
                self.assertEqual(led(table, [], way), way)

    def test_as_the_words_say(self):
        for table in TABLES:
            for word in all_words(turners(table)[:4] + turners(table)[-2:], 2):
                for way in all_ways(table, 3):
                    self.assertEqual(led(table, word, way), word_leads(table, word, way), (table, word, way))

    def test_word_and_contrary_undo_one_another(self):
        for table in TABLES:
            word, way = long_word(table), long_way(table)
            self.assertEqual(led(table, contrary(word), led(table, word, way)), way)
            self.assertEqual(led(table, word, led(table, contrary(word), way)), way)
            self.assertEqual(led(table, word + contrary(word), way), way)

    def test_one_word_behind_another(self):
        for table in TABLES:
            word, way = long_word(table), long_way(table)
            for at in (0, 1, 17, 59, 60):
                self.assertEqual(led(table, word[at:], led(table, word[:at], way)), led(table, word, way))

    def test_no_two_ways_become_one(self):
        for table in TABLES:
            for word in ([], long_word(table), long_word(table)[:7], long_word(table)[20:31]):
                for many in range(5):
                    ways = all_ways(table, many)
                    reached = sorted(led(table, word, way) for way in ways)
                    self.assertEqual(reached, ways)

    def test_the_beginning_and_then_what_is_below(self):
        for table in TABLES:
            word, way = long_word(table), long_way(table)
            for at in (0, 1, 2, 11, 23, 24):
                rest = led(table, below(table, word, way[:at]), way[at:])
                self.assertEqual(led(table, word, way), led(table, word, way[:at]) + rest)

    def test_what_was_handed_in_stays(self):
        for table in (MIXED_THREE, MIXED_FOUR, NO_ROWS):
            for word in (long_word(table), []):
                way = long_way(table)
                led(table, word, way)
                self.assertEqual((word, way), (long_word(table) if word else [], long_way(table)))

    def test_what_is_told_is_new(self):
        for word in ([], [1, -2]):
            way = [0, 1, 2]
            told = led(MIXED_THREE, word, way)
            first = list(told)
            told.append(0)
            told[0] = 9
            self.assertEqual(way, [0, 1, 2])
            self.assertEqual(led(MIXED_THREE, word, way), first)


if __name__ == "__main__":
    unittest.main()
