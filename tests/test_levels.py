"""Point 23: the turnings of a level, each with the first word that does it; point 2 on these."""

import copy
import unittest

from boughturn.levels import turnings
from boughturn.words import before
from tests.oracle import all_ways, all_words, leads_by_rows, rank_key, rising_turners
from tests.sample_ladders import COUNT_FOUR
from tests.sample_papers import BASIL, SHALLOW_FOUR, SHALLOW_THREE, THREES
from tests.samples import (
    COUNT_THREE, COUNT_TWO, EIGHT_ROWS, FIRST, FREE, LAMPS, MIXED_FOUR, MIXED_THREE, NO_ROWS, TABLES, TWIN_THREE,
    lists_within,
)

# The greatest level that is promised, for each number of letters.
GREATEST = {2: 5, 3: 3, 4: 2}


def turning_of(table, n, word):
    ways = all_ways(table, n)
    return [ways.index(leads_by_rows(table, word, way)) for way in ways]


def first_words(table, n, most):
    """Turning by turning, the first word of at most so many turners that does it, all words gone through."""
    told = {}
    for word in sorted(all_words(rising_turners(table), most), key=rank_key):
        told.setdefault(tuple(turning_of(table, n, word)), word)
    return [(list(turning), word) for turning, word in told.items()]


class TurningsTests(unittest.TestCase):

    def check_all(self, table, n, told):
        """Each turning once, in the order of the words, each as its word does; none can be done but those."""
        kind, found = told
        self.assertEqual(kind, "all")
        self.assertIsInstance(found, list)
        self.assertEqual(len({tuple(turning) for turning, word in found}), len(found))
        for turning, word in found:
            self.assertEqual(turning, turning_of(table, n, word))
        for (turning, word), (other_turning, other) in zip(found, found[1:]):
            self.assertIs(before(word, other), True)
        done = {tuple(turning) for turning, word in found}
        for turner in rising_turners(table):
            move = turning_of(table, n, [turner])
            for turning in done:
                self.assertIn(tuple(move[number] for number in turning), done)
        self.assertEqual(found[0], (list(range(table[0] ** n)), []))

    def test_told_lists(self):
        self.assertEqual(turnings(FIRST, 1, 2), ("all", [([0, 1], []), ([1, 0], [1])]))
        self.assertEqual(turnings(COUNT_THREE, 1, 300), ("all", [
            ([0, 1, 2], []), ([1, 2, 0], [1]), ([2, 0, 1], [-1]),
        ]))
        self.assertEqual(turnings(COUNT_TWO, 2, 300), ("all", [
            ([0, 1, 2, 3], []), ([2, 3, 1, 0], [1]), ([3, 2, 0, 1], [-1]), ([1, 0, 3, 2], [1, 1]),
        ]))

    def test_level_0(self):
        for table in TABLES:
            for most in (1, 2, 300):
                self.assertEqual(turnings(table, 0, most), ("all", [([0], [])]))

    def test_no_rows(self):
        for letters in (2, 3, 4):
            for n in range(GREATEST[letters] + 1):
                still = list(range(letters ** n))
                self.assertEqual(turnings((letters, ()), n, 1), ("all", [(still, [])]))
        self.assertEqual(turnings(NO_ROWS, 3, 300), ("all", [(list(range(27)), [])]))

    def test_first_words_by_brute_force(self):
        for table in TABLES + (THREES, BASIL, SHALLOW_THREE, SHALLOW_FOUR):
            most = 2 if len(table[1]) > 4 else 3
            for n in range(1, 3):
                told = turnings(table, n, 300)
                if told[0] == "all":
                    short = [(turning, word) for turning, word in told[1] if len(word) <= most]
                    self.assertEqual(short, first_words(table, n, most), (table, n))

    def test_all_of_them(self):
        for table in TABLES + (THREES, BASIL, SHALLOW_THREE, SHALLOW_FOUR, COUNT_FOUR):
            for n in range(GREATEST[table[0]] + 1):
                told = turnings(table, n, 300)
                if told[0] == "all":
                    self.check_all(table, n, told)
                else:
                    self.assertEqual(told, ("open", 300))

    def test_how_many(self):
        samples = (
            (FIRST, 2, 8), (FIRST, 3, 128), (COUNT_TWO, 5, 32), (COUNT_THREE, 3, 27), (COUNT_FOUR, 2, 16),
            (THREES, 1, 3), (THREES, 2, 27), (EIGHT_ROWS, 1, 2), (LAMPS, 2, 8), (MIXED_THREE, 1, 6),
            (MIXED_FOUR, 1, 24), (TWIN_THREE, 3, 27), (BASIL, 2, 8), (FREE, 1, 2),
        )
        for table, n, many in samples:
            kind, told = turnings(table, n, 300)
            self.assertEqual((kind, len(told)), ("all", many), (table, n))

    def test_a_most_just_as_many_and_one_fewer(self):
        samples = ((FIRST, 1), (FIRST, 2), (FIRST, 3), (COUNT_TWO, 5), (COUNT_THREE, 3), (COUNT_FOUR, 2), (THREES, 2))
        for table, n in samples:
            found = turnings(table, n, 300)[1]
            many = len(found)
            self.assertEqual(turnings(table, n, many), ("all", found))
            self.assertEqual(turnings(table, n, many + 1), ("all", found))
            self.assertEqual(turnings(table, n, many - 1), ("open", many - 1))
            self.assertEqual(turnings(table, n, 1), ("open", 1))

    def test_too_many(self):
        for table, n in ((FIRST, 4), (FIRST, 5), (THREES, 3), (MIXED_FOUR, 2), (SHALLOW_THREE, 3)):
            self.assertEqual(turnings(table, n, 300), ("open", 300))
            self.assertEqual(turnings(table, n, 17), ("open", 17))

    def test_contraries_among_the_turners(self):
        told = turnings(COUNT_TWO, 5, 300)[1]
        words = [[]] + [[turner] * many for many in range(1, 16) for turner in (1, -1)] + [[1] * 16]
        self.assertEqual([word for turning, word in told], words)
        self.assertIn([-1], [word for turning, word in turnings(MIXED_FOUR, 1, 300)[1]])

    def test_the_lesser_of_two_rows_that_do_the_same(self):
        for turning, word in turnings(TWIN_THREE, 3, 300)[1]:
            self.assertTrue(all(turner in (1, -1) for turner in word))

    def test_told_again_after_what_was_told_was_changed(self):
        for table, n in ((FIRST, 2), (FIRST, 0), (COUNT_THREE, 2)):
            told = turnings(table, n, 300)
            first = copy.deepcopy(told)
            lists = [id(each) for each in lists_within(told)]
            self.assertEqual(len(set(lists)), len(lists))
            for each in list(lists_within(told)):
                each.append(1)
            self.assertEqual(turnings(table, n, 300), first)


if __name__ == "__main__":
    unittest.main()
