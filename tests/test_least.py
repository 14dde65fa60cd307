"""Point 12: classes of turners that are alike, and least tables; points 2 and 3 as far as they speak of these."""

import copy
import random
import unittest

from boughturn.acting import led
from boughturn.closed import alike
from boughturn.least import classes, least
from boughturn.tables import is_table
from tests.oracle import all_ways, leads_by_rows, rank_key
from tests.sample_papers import BASIL, DRAGON, EVERY_OTHER, SHALLOW_FOUR, SHALLOW_THREE, THREES
from tests.samples import (
    COUNT_THREE, COUNT_TWO, EIGHT_ROWS, FIRST, FREE, LAMPS, MIXED_FOUR, MIXED_THREE, NO_ROWS, TABLES, TWIN_FOUR,
    TWIN_THREE,
)

# The second turner does nothing, the third one what the first one does, the fourth one the contrary of it.
COUNTERS = (2, (((1, 0), (2, 3)), ((0, 1), (-2, 2)), ((1, 0), (0, -4)), ((1, 0), (4, 2))))

# Its own contrary is the first one, and the second one's as well.
OWN = (3, (((1, 0, 2), (0, 0, -1)), ((1, 0, 2), (0, 0, 1)), ((0, 2, 1), (-2, 3, 0))))

# Rows that hand on down a line, so that the first ones part only at ways of seven and eight letters.
LINE = (2, tuple(((0, 1), (k + 1, k + 1)) for k in range(1, 8)) + (((1, 0), (0, 0)),))
TWO_LINES = (2, (
    ((0, 1), (3, 0)), ((0, 1), (4, 0)), ((0, 1), (5, 0)), ((0, 1), (6, 0)), ((0, 1), (7, 0)), ((0, 1), (8, 0)),
    ((1, 0), (0, 0)), ((1, 0), (0, 7)),
))

ALL = (*TABLES, COUNTERS, OWN, LINE, TWO_LINES, THREES, BASIL, DRAGON, EVERY_OTHER, SHALLOW_THREE, SHALLOW_FOUR)


def small_tables(many):
    """Tables of few rows, so that short ways part all turners that are not alike."""
    chance = random.Random(12)
    for _ in range(many):
        letters, rows = chance.choice(((2, 1), (2, 2), (2, 3), (3, 1), (3, 2), (4, 1)))
        swaps = list(range(letters))
        told = []
        for _ in range(rows):
            if chance.random() < 0.6:
                chance.shuffle(swaps)
            told.append((tuple(swaps), tuple(chance.randint(-rows, rows) for _ in range(letters))))
        yield letters, tuple(told)


def by_ways(table):
    """The classes as the ways of as many letters as there are turners but one tell them."""
    many = len(table[1])
    ways = all_ways(table, 2 * many)
    told = {}
    for turner in range(-many, many + 1):
        word = [turner] if turner else []
        told.setdefault(str([leads_by_rows(table, word, way) for way in ways]), []).append(turner)
    return list(told.values())


class ClassesTests(unittest.TestCase):

    def test_told_classes(self):
        self.assertEqual(classes(FIRST), [[-4, 4], [-3, 3], [-2, 2], [-1, 1], [0]])
        self.assertEqual(classes(COUNT_TWO), [[-1], [0], [1]])
        self.assertEqual(classes(COUNTERS), [[-4, 1, 3], [-3, -1, 4], [-2, 0, 2]])
        self.assertEqual(classes(OWN), [[-3], [-2, -1, 1, 2], [0], [3]])
        self.assertEqual(classes(TWIN_THREE), [[-2, -1], [0], [1, 2]])
        self.assertEqual(classes(TWIN_FOUR), [[-2, -1], [0], [1, 2]])

    def test_no_rows(self):
        for letters in (2, 3, 4):
            self.assertEqual(classes((letters, ())), [[0]])

    def test_all_alike_to_0(self):
        table = (3, (((0, 1, 2), (2, -1, 0)), ((0, 1, 2), (-2, 1, 1))))
        self.assertEqual(classes(table), [[-2, -1, 0, 1, 2]])
        self.assertEqual(classes((2, (((0, 1), (1, 1)),) * 8)), [list(range(-8, 9))])

    def test_parted_by_long_ways_only(self):
        self.assertEqual(classes(LINE), [[-k, k] for k in range(8, 0, -1)] + [[0]])
        told = [[-8], [-7, 7], [-6], [-5, 5], [-4], [-3, 3], [-2], [-1, 1], [0], [2], [4], [6], [8]]
        self.assertEqual(classes(TWO_LINES), told)

    def test_turners_alike_though_many_words_can_be_come_to(self):
        # Two copies of the rows of a table, each handing on to the other one's.
        rows = FREE[1]
        twice = tuple((swaps, tuple(part + 3 for part in parts)) for swaps, parts in rows) + rows
        told = classes((2, twice))
        self.assertEqual(told, [[-6, -3], [-5, -2], [-4, -1], [0], [1, 4], [2, 5], [3, 6]])

    def test_each_turner_in_one_class(self):
        for table in ALL:
            told = classes(table)
            many = len(table[1])
            self.assertEqual(sorted(turner for each in told for turner in each), list(range(-many, many + 1)))
            self.assertTrue(all(each == sorted(each) for each in told))
            self.assertEqual(told, sorted(told))

    def test_as_all_ways_tell(self):
        for table in small_tables(200):
            self.assertEqual(classes(table), by_ways(table), table)

    def test_as_closed_lists_tell(self):
        for table in (COUNTERS, OWN, FIRST, TWIN_FOUR, EIGHT_ROWS, MIXED_THREE):
            for each in classes(table):
                words = [[turner] if turner else [] for turner in each]
                for word in words[1:]:
                    self.assertEqual(alike(table, words[0], word, 300)[0], "rests", (table, word))


class LeastTests(unittest.TestCase):

    def test_told_tables(self):
        self.assertEqual(least(COUNT_TWO), (COUNT_TWO, [1]))
        self.assertEqual(least(COUNTERS), ((2, (((1, 0), (0, 1)),)), [1, 0, 1, -1]))
        self.assertEqual(least(OWN), ((3, (((1, 0, 2), (0, 0, -1)), ((0, 2, 1), (-1, 2, 0)))), [1, 1, 2]))
        self.assertEqual(least(TWIN_THREE), (COUNT_THREE, [1, 1]))
        self.assertEqual(least(TWIN_FOUR), ((4, (((1, 2, 3, 0), (0, 0, 0, 1)),)), [1, 1]))

    def test_what_is_least_stays(self):
        for table in (FIRST, COUNT_TWO, COUNT_THREE, FREE, LAMPS, LINE, THREES, BASIL, DRAGON, MIXED_FOUR):
            self.assertEqual(least(table), (table, list(range(1, len(table[1]) + 1))))

    def test_no_rows(self):
        for letters in (2, 3, 4):
            self.assertEqual(least((letters, ())), ((letters, ()), []))
        self.assertEqual(least(NO_ROWS), (NO_ROWS, []))

    def test_all_alike_to_0(self):
        self.assertEqual(least((2, (((0, 1), (1, -2)), ((0, 1), (0, 1))))), ((2, ()), [0, 0]))

    def test_the_first_by_rank_of_one_that_is_its_own_contrary(self):
        table = (2, (((1, 0), (0, 0)), ((1, 0), (-3, 3)), ((0, 1), (3, 0)), ((0, 1), (-2, 1))))
        self.assertEqual(least(table), ((2, (((1, 0), (0, 0)), ((0, 1), (-1, 1)))), [1, 1, 0, 2]))

    def test_parts_that_are_contraries_of_one_told_as_a_contrary(self):
        # The second turner is the contrary of the first one, so its contrary is told as the first one.
        table = (2, (((1, 0), (0, 1)), ((1, 0), (2, 0)), ((0, 1), (-2, 2)), ((0, 1), (2, -1))))
        told = (2, (((1, 0), (0, 1)), ((0, 1), (1, -1)), ((0, 1), (-1, -1))))
        self.assertEqual(least(table), (told, [1, -1, 2, 3]))

    def check(self, table):
        """The least table is as the point says, by the classes of its turners and the table's in one."""
        told, names = least(table)
        self.assertIsInstance(told, tuple)
        self.assertIsInstance(names, list)
        self.assertTrue(is_table(told))
        self.assertEqual(told[0], table[0])
        self.assertEqual(len(names), len(table[1]))
        many = len(told[1])
        self.assertTrue(all(-many <= name <= many for name in names))
        for each in classes(told):
            self.assertIn(each, ([0], [each[0]], [-each[-1], each[-1]]))
        self.assertEqual(least(told), (told, list(range(1, many + 1))))

    def check_leads(self, table):
        """Each turner leads ways as the one of the least table that is told of it; it is the first one by rank."""
        told, names = least(table)
        many = len(told[1])
        for turner, name in enumerate(names, start=1):
            for way in all_ways(table, 4):
                word = [name] if name else []
                self.assertEqual(led(told, word, way), led(table, [turner], way), table)
        by_rank = {other: each for each in classes(told) for other in each}
        for name in names:
            self.assertEqual(name, min(by_rank[name], key=lambda turner: rank_key([turner])), (table, many))

    def test_all(self):
        for table in ALL:
            self.check(table)
            self.check_leads(table)

    def test_small_tables(self):
        for table in small_tables(300):
            self.check(table)
            self.check_leads(table)

    def test_rows_are_those_of_the_first_ones_in_their_order(self):
        for table in small_tables(300):
            told, names = least(table)
            kept = [k for k in range(1, len(names) + 1) if not any(
                each for each in classes(table) if k in each and any(abs(other) < k for other in each)
            )]
            self.assertEqual([row[0] for row in told[1]], [table[1][k - 1][0] for k in kept], table)
            self.assertEqual([names[k - 1] for k in kept], list(range(1, len(kept) + 1)), table)
            for row, k in zip(told[1], kept):
                named = [0, *names, *[-name for name in names[::-1]]]
                self.assertEqual(row[1], tuple(named[part] for part in table[1][k - 1][1]), table)


class OwnListTests(unittest.TestCase):

    def test_told_again_after_what_was_told_was_changed(self):
        for table in (FIRST, COUNTERS, OWN, NO_ROWS):
            told = classes(table)
            first = copy.deepcopy(told)
            for each in told:
                each.append(9)
            told.pop()
            self.assertEqual(classes(table), first)
            names = least(table)[1]
            kept = list(names)
            names.append(9)
            self.assertEqual(least(table)[1], kept)


if __name__ == "__main__":
    unittest.main()
