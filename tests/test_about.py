"""Point 25: the first word by which one word is turned about to another; point 2 on these."""

import copy
import unittest

from boughturn.about import turned_about
from boughturn.floors import settled
from tests.oracle import all_words, does_nothing, rank_key, rising_turners
from tests.sample_papers import (
    BASIL, FIRST_PAPER, PAPERS, SHALLOW_FOUR, SHALLOW_THREE, THREES, paper_of,
)
from tests.samples import COUNT_TWO, FIRST, NO_ROWS, chance_words, lists_within


def back(word):
    return [-turner for turner in word[::-1]]


def about_by_force(table, one, other, most):
    """The first word that will do, all words gone through."""
    for word in sorted(all_words(rising_turners(table), most), key=rank_key):
        if does_nothing(table, back(word) + one + word + back(other)):
            return word
    return None


class TurnedAboutTests(unittest.TestCase):

    def about(self, one, other, most):
        return turned_about(FIRST, FIRST_PAPER, one, other, most)

    def test_told_words(self):
        self.assertEqual(self.about([4], [1, 4, 1], 3), [1])
        self.assertEqual(self.about([1, 4, 1], [4], 1), [1])
        self.assertEqual(self.about([1], [3, 1, 3], 2), [3])
        self.assertEqual(turned_about(THREES, paper_of(THREES), [2], [-1, 2, 1], 3), [1])
        self.assertEqual(turned_about(THREES, paper_of(THREES), [2], [1, 2, -1], 3), [-1])
        self.assertEqual(turned_about(THREES, paper_of(THREES), [1], [2, 1, -2], 3), [-2])

    def test_each_most(self):
        # The one word, turned about by this one and by no shorter one.
        samples = ((FIRST, [2], [1]), (FIRST, [2], [1, 3]), (FIRST, [2], [1, 3, 1]), (THREES, [2], [-1]),
                   (THREES, [1], [2, -1]), (THREES, [1], [-2, 1, 2]), (BASIL, [1], [2, 1, 2]))
        for table, one, word in samples:
            other = back(word) + one + word
            told = turned_about(table, paper_of(table), one, other, 3)
            self.assertEqual(told, about_by_force(table, one, other, 3))
            self.assertIsNotNone(told)
            for most in range(4):
                expected = told if most >= len(told) else None
                self.assertEqual(turned_about(table, paper_of(table), one, other, most), expected)

    def test_needs_each_number_of_turners(self):
        needed = set()
        samples = (
            ([2], []), ([2], [1]), ([2], [1, 3]), ([2], [1, 3, 1]), ([2], [1, 4, 1]), ([1, 2], [4, 1, 2]),
        )
        for one, word in samples:
            told = self.about(one, back(word) + one + word, 3)
            needed.add(len(told))
            if told:
                self.assertIsNone(self.about(one, back(word) + one + word, len(told) - 1))
        self.assertEqual(needed, {0, 1, 2, 3})

    def test_none_of_at_most_so_many_but_one_of_more(self):
        word = [1, 2, 1, 3]
        other = back(word) + [2] + word
        words = all_words((1, 2, 3, 4), 4)
        longer = [each for each in words if does_nothing(FIRST, back(each) + [2] + each + back(other))]
        self.assertEqual(min(len(each) for each in longer), 4)
        for most in range(4):
            self.assertIsNone(self.about([2], other, most))

    def test_none_at_all(self):
        for one, other in (([1], [2]), ([], [1]), ([1], []), ([1, 2], [1, 3]), ([1, 2], [1])):
            for most in range(4):
                self.assertIsNone(self.about(one, other, most))
        self.assertIsNone(turned_about(COUNT_TWO, paper_of(COUNT_TWO), [1], [-1], 3))

    def test_alike_words(self):
        for most in range(4):
            for one, other in (([], []), ([2], [2]), ([2, 3], [4]), ([-1], [1]), ([1, 2] * 16, []), ([4, 1] * 4, [])):
                self.assertEqual(self.about(one, other, most), [])
        for table, paper in PAPERS:
            for word in chance_words(31, table, (0, 1, 5, 60)):
                self.assertEqual(turned_about(table, paper, word, list(word), 3), [])

    def test_no_rows(self):
        for most in range(4):
            self.assertEqual(turned_about(NO_ROWS, paper_of(NO_ROWS), [], [], most), [])

    def test_the_first_one_of_several(self):
        # Of the words that will do, there are some behind the first one with as many turners.
        fits = [word for word in all_words((1, 2, 3, 4), 2) if does_nothing(FIRST, back(word) + [2] + word + [1, 2, 1])]
        self.assertGreater(len([word for word in fits if len(word) == 1]), 0)
        self.assertGreater(len(fits), 1)
        self.assertEqual(self.about([2], [1, 2, 1], 3), min(fits, key=rank_key))

    def test_by_brute_force(self):
        for table, paper in PAPERS:
            for seed in range(3):
                one, word, other = chance_words(seed + 40, table, (3, 2, 3))
                for target in (back(word) + one + word, other):
                    for most in (0, 1, 2):
                        told = turned_about(table, paper, one, target, most)
                        self.assertEqual(told, about_by_force(table, one, target, most), (table, one, target, most))

    def test_three_turners_by_brute_force(self):
        for table in (BASIL, THREES, COUNT_TWO):
            for seed in range(4):
                one, word, other = chance_words(seed + 50, table, (4, 3, 4))
                for target in (back(word) + one + word, other):
                    told = turned_about(table, paper_of(table), one, target, 3)
                    self.assertEqual(told, about_by_force(table, one, target, 3), (table, one, target))

    def test_papers_that_cut_nothing(self):
        for table in (SHALLOW_THREE, SHALLOW_FOUR):
            for one in ([1], [2], [3, 1]):
                for word in ([1], [-2], [3, 2], [1, -3]):
                    other = back(word) + one + word
                    told = turned_about(table, paper_of(table), one, other, 3)
                    self.assertEqual(told, about_by_force(table, one, other, 2))

    def test_long_words(self):
        for table, paper in PAPERS:
            for one, turner, other in zip(*(chance_words(seed, table, sizes) for seed, sizes in (
                (32, (54, 54)), (33, (3, 2)), (34, (60, 7)),
            ))):
                target = back(turner) + one + turner
                told = turned_about(table, paper, one, target, 3)
                self.assertLessEqual(rank_key(told), rank_key(turner))
                self.assertEqual(settled(table, paper, back(told) + one + told + back(target))[0], "rests")
                told = turned_about(table, paper, one, other, 3)
                if told is not None:
                    self.assertEqual(settled(table, paper, back(told) + one + told + back(other))[0], "rests")

    def test_papers_of_tuples(self):
        for table, (rules, closed, length, depth) in PAPERS:
            one, word = chance_words(34, table, (5, 2))
            told = turned_about(table, (tuple(rules), tuple(closed), length, depth), one, back(word) + one + word, 2)
            self.assertEqual(told, turned_about(table, (rules, closed, length, depth), one, back(word) + one + word, 2))

    def test_a_new_list_and_what_was_handed_in_stays(self):
        for one, other in (([2], [1, 2, 1]), ([2], [2]), ([], []), ([1], [2])):
            handed = copy.deepcopy((FIRST_PAPER, one, other))
            kept = copy.deepcopy(handed)
            told = turned_about(FIRST, *handed, 2)
            self.assertEqual(handed, kept)
            if told is not None:
                self.assertFalse({id(told)} & {id(each) for each in lists_within(handed)})
                first = list(told)
                told.append(1)
                self.assertEqual(turned_about(FIRST, *handed, 2), first)
                self.assertEqual(handed, kept)


if __name__ == "__main__":
    unittest.main()
