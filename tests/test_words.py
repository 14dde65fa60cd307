"""Points 5 and 6: words, contraries, tidied words, and which comes before which."""

import unittest

from boughturn.words import before, contrary, is_word, tidied
from tests.oracle import all_words
from tests.samples import EIGHT_ROWS, FIRST, MIXED_THREE, NO_ROWS, ODD_THINGS, TABLES, deep


def tidied_ways(word):
    """All that can be left of the word, whichever pairs are taken out first."""
    pairs = [at for at in range(len(word) - 1) if word[at] == -word[at + 1]]
    if not pairs:
        return {tuple(word)}
    left = set()
    for at in pairs:
        left |= tidied_ways(word[:at] + word[at + 2:])
    return left


class IsWordTests(unittest.TestCase):

    def yes(self, table, thing):
        self.assertIs(is_word(table, thing), True, thing)

    def no(self, table, thing):
        self.assertIs(is_word(table, thing), False, thing)

    def test_words(self):
        self.yes(FIRST, [1])
        self.yes(FIRST, [4, -4, 1, 1, -3])
        self.yes(FIRST, [1, -4, 2] * 20)
        self.yes(FIRST, [-4] * 61)

    def test_no_turners(self):
        for table in TABLES:
            self.yes(table, [])

    def test_turners_from_edge_to_edge_and_beyond(self):
        for table in TABLES:
            many = len(table[1])
            for turner in range(-many - 2, many + 3):
                told = is_word(table, [turner])
                self.assertIs(told, turner != 0 and -many <= turner <= many, (table, turner))

    def test_beyond_by_one_at_any_place(self):
        for turner in (5, -5, 0, 10 ** 59):
            for at in range(60):
                word = [1, -2, 3] * 20
                word[at] = turner
                self.no(FIRST, word)

    def test_no_turner_but_none_without_rows(self):
        for turner in (-1, 0, 1):
            self.no(NO_ROWS, [turner])

    def test_truths(self):
        for table in (FIRST, EIGHT_ROWS, NO_ROWS):
            for truth in (True, False):
                self.no(table, truth)
                self.no(table, [truth])
                self.no(table, [1, truth])

    def test_things_of_other_kinds(self):
        for thing in ODD_THINGS:
            if thing != []:
                self.no(FIRST, thing)
            if thing not in (1, -1, 2) or thing is True:
                self.no(FIRST, [thing])
                self.no(FIRST, [1, 2, thing])

    def test_tuples_and_texts(self):
        for thing in ((), (1,), (1, 2), "", "1", "ab", ["1"], ["a"], [[1]], [(1,)], [1, None], deep(9, 1, list)):
            self.no(FIRST, thing)


class ContraryTests(unittest.TestCase):

    def test_contraries(self):
        self.assertEqual(contrary([]), [])
        self.assertEqual(contrary([3]), [-3])
        self.assertEqual(contrary([-3]), [3])
        self.assertEqual(contrary([1, 2, -3]), [3, -2, -1])
        self.assertEqual(contrary([1, 1, -2]), [2, -1, -1])
        self.assertEqual(contrary(list(range(1, 9)) * 7), list(range(-8, 0)) * 7)

    def test_twice_is_the_word(self):
        for word in all_words((1, -1, 2, -3), 4):
            self.assertEqual(contrary(contrary(word)), word)

    def test_word_and_contrary_are_tidied_away(self):
        for word in all_words((1, -1, 2), 5):
            self.assertEqual(tidied(word + contrary(word)), [])
            self.assertEqual(tidied(contrary(word) + word), [])

    def test_a_new_list_and_the_word_stays(self):
        for word in ([], [2], [1, -2, 3]):
            kept = list(word)
            told = contrary(word)
            self.assertEqual(word, kept)
            self.assertIsNot(told, word)
            told.append(1)
            self.assertEqual(word, kept)
            self.assertEqual(contrary(word), [-turner for turner in kept[::-1]])


class TidiedTests(unittest.TestCase):

    def test_pairs_are_taken_out(self):
        self.assertEqual(tidied([]), [])
        self.assertEqual(tidied([1, -1]), [])
        self.assertEqual(tidied([-1, 1]), [])
        self.assertEqual(tidied([1, 2, -2, 3]), [1, 3])
        self.assertEqual(tidied([1, -1, 1]), [1])

    def test_pairs_that_come_side_by_side(self):
        self.assertEqual(tidied([1, 2, -2, -1]), [])
        self.assertEqual(tidied([3, 1, 2, -2, -1, 3]), [3, 3])
        self.assertEqual(tidied([1, 2, 3, -3, -2, 4]), [1, 4])
        deep_pairs = list(range(1, 9)) * 3
        self.assertEqual(tidied([5, *deep_pairs, *contrary(deep_pairs), 5]), [5, 5])

    def test_what_is_tidy_stays(self):
        for word in ([1], [1, 1], [1, 2, 1, 2], [-1, -1, 2], [1, 2, -1, -2], [1, 2] * 30):
            self.assertEqual(tidied(word), word)

    def test_whichever_are_taken_out_first(self):
        for word in all_words((1, -1, 2, -2), 6):
            self.assertEqual(tidied_ways(word), {tuple(tidied(word))})

    def test_a_new_list_and_the_word_stays(self):
        for word in ([], [1], [1, 2], [1, 2, -2, 3]):
            kept = list(word)
            told = tidied(word)
            first = list(told)
            self.assertEqual(word, kept)
            self.assertIsNot(told, word)
            told.append(4)
            self.assertEqual(word, kept)
            self.assertEqual(tidied(word), first)


class BeforeTests(unittest.TestCase):

    def check(self, one, other):
        """The one comes before the other, and not the other way about."""
        self.assertIs(before(one, other), True, (one, other))
        self.assertIs(before(other, one), False, (one, other))

    def test_fewer_turners(self):
        self.check([], [1])
        self.check([-8], [1, 1])
        self.check([-4, -4, -4], [1, 1, 1, 1])
        self.check([-8] * 59, [1] * 60)

    def test_a_turner_and_its_contrary(self):
        for turner in range(1, 9):
            self.check([turner], [-turner])

    def test_turners_by_rank(self):
        rising = [turner for k in range(1, 9) for turner in (k, -k)]
        for at, turner in enumerate(rising):
            for other in rising[at + 1:]:
                self.check([turner], [other])
                self.check([-8, turner, -8], [-8, other, 1])

    def test_unlike_at_one_place(self):
        for at in range(60):
            one = [3] * 60
            other = list(one)
            other[at] = -3
            self.check(one, other)
            other[at] = 2
            self.check(other, one)

    def test_the_first_unlike_place_tells(self):
        self.check([1, -1, -8], [1, 2, 1])
        self.check([1, -8], [-1, 1])

    def test_a_word_and_itself(self):
        for word in ([], [1], [-1], [1, -2, 3], [4] * 60):
            self.assertIs(before(word, word), False)
            self.assertIs(before(word, list(word)), False)

    def test_all_words_in_their_order(self):
        rising = list(all_words((1, -1, 2, -2, 3, -3), 2))
        for at, one in enumerate(rising):
            for behind, other in enumerate(rising):
                self.assertIs(before(one, other), at < behind, (one, other))

    def test_the_words_stay(self):
        one, other = [1, -2], [1, 2]
        before(one, other)
        self.assertEqual((one, other), ([1, -2], [1, 2]))


if __name__ == "__main__":
    unittest.main()
