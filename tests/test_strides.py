"""Points 17, 19 and 20: steps from words that are told by roots and times."""

import unittest
from unittest import mock

from boughturn import strides
from boughturn.signs import text_of, word_of
from boughturn.strides import Strider, Walk
from tests.oracle import leads_by_rows, rings_of, round_form, steps_of, stepped_to, word_below
from tests.sample_long import DOUBLING, DOUBLING_RULES, LONG_FOUR, LONG_MANY, LONG_RULES, LONG_WORD, LONGEST
from tests.sample_papers import DRAGON, PAPERS, paper_of
from tests.samples import COUNT_TWO, chance_words


def rings_by_rows(table, word):
    """The rings of a long word, letter by letter."""
    made = [leads_by_rows(table, word, [letter])[0] for letter in range(table[0])]
    told = []
    for letter in range(table[0]):
        ring = [letter]
        while made[ring[-1]] != letter:
            ring.append(made[ring[-1]])
        if min(ring) == letter:
            told.append(ring)
    return told


class RoundWordTests(unittest.TestCase):

    def by_root(self, strider, word, times):
        told = strider.round_words(text_of(word), times)
        return [(letter, many, word_of("".join(pieces) * often)) for letter, many, pieces, often in told]

    def test_words_done_several_times(self):
        for table, paper in PAPERS:
            strider = Strider(table, paper[0])
            for word in chance_words(17, table, (0, 1, 2, 3, 5)):
                for times in (1, 2, 3, 4, 6, 12, 13):
                    written = word * times
                    told = []
                    for ring in rings_of(table, written):
                        handed = [turner for letter in ring for turner in word_below(table, written, letter)]
                        told.append((ring[0], len(ring), handed))
                    self.assertEqual(self.by_root(strider, word, times), told, (table, word, times))

    def test_long_words(self):
        strider = Strider(LONG_FOUR, LONG_RULES)
        for more in ([1, 6], [1], [6, 1], [7]):
            word = LONG_WORD * 200 + more + LONG_WORD * 300
            for times in (1, 2, 4):
                told = []
                for ring in rings_by_rows(LONG_FOUR, word * times):
                    handed = [turner for letter in ring for turner in word_below(LONG_FOUR, word * times, letter)]
                    told.append((ring[0], len(ring), handed))
                self.assertEqual(self.by_root(strider, word, times), told)


class WalkTests(unittest.TestCase):

    def words_of(self, walk):
        return [walk.word_at(number) for number in range(len(walk.found))]

    def check(self, table, rules, word):
        """The words are those to which steps lead, each once, and the steps theirs."""
        walk = Walk(table, rules, word, 1000)
        self.assertFalse(walk.has_more or walk.is_cut_off)
        words = self.words_of(walk)
        self.assertEqual(words[0], round_form(rules, word))
        self.assertEqual(sorted(words), sorted(stepped_to(table, rules, word, 1000)))
        for each, row in zip(words, walk.rows):
            self.assertEqual([(letter, many, words[to]) for letter, many, to in row], steps_of(table, rules, each))

    def test_as_the_oracle_tells(self):
        for table, paper in PAPERS:
            if table != DRAGON:
                for word in chance_words(18, table, (0, 1, 3, 6)):
                    self.check(table, paper[0], word)

    def test_words_done_many_times(self):
        for table, paper in PAPERS:
            if table != DRAGON:
                for word in chance_words(19, table, (1, 2)):
                    for times in (7, 20, 36):
                        self.check(table, paper[0], word * times)

    def test_words_too_long_to_be_written_out(self):
        # The word of two turners is done twice as often at each step.
        walk = Walk(DOUBLING, DOUBLING_RULES, [1, 2], 300)
        self.assertTrue(walk.has_more)
        self.assertEqual(len(walk.found), 301)
        self.assertGreater(max(times for root, times in walk.found), 10 ** 60)
        few = [word for word in self.words_of(Walk(DOUBLING, DOUBLING_RULES, [1, 2], 9))]
        for word in few[:9]:
            for letter, many, target in steps_of(DOUBLING, DOUBLING_RULES, word):
                self.assertTrue(target in few or len(target) > max(map(len, few)) // 2)

    def test_long_steps(self):
        walk = Walk(LONG_FOUR, LONG_RULES, LONG_WORD, LONG_MANY)
        self.assertFalse(walk.has_more or walk.is_cut_off)
        self.assertEqual(len(walk.found), LONG_MANY)
        self.assertEqual(max(len(root) * times for root, times in walk.found), LONGEST)
        self.assertTrue(Walk(LONG_FOUR, LONG_RULES, LONG_WORD, LONG_MANY - 1).has_more)

    def test_more_words_are_shown_or_counted(self):
        walk = Walk(DRAGON, paper_of(DRAGON)[0], [1], 1000)
        self.assertTrue(walk.has_more)
        self.assertLess(len(walk.found), 100)
        walk = Walk(DRAGON, paper_of(DRAGON)[0], [1], 5)
        self.assertTrue(walk.has_more)
        self.assertEqual(len(walk.found), 6)

    def test_too_much_work(self):
        with mock.patch.object(strides, "MOST_WORK", 20000):
            walk = Walk(LONG_FOUR, LONG_RULES, LONG_WORD, 300)
            self.assertTrue(walk.is_cut_off)
            self.assertFalse(walk.has_more)
            self.assertLess(len(walk.found), LONG_MANY)
            self.assertFalse(Walk(COUNT_TWO, paper_of(COUNT_TWO)[0], [1] * 12, 300).is_cut_off)

    def test_too_many_signs(self):
        with mock.patch.object(strides, "MOST_SIGNS", 3000):
            self.assertTrue(Walk(LONG_FOUR, LONG_RULES, LONG_WORD, 300).is_cut_off)
            self.assertFalse(Walk(COUNT_TWO, paper_of(COUNT_TWO)[0], [1] * 12, 300).is_cut_off)

    def test_little_is_kept(self):
        with mock.patch.object(strides, "MOST_KNOWN", 5):
            walk = Walk(LONG_FOUR, LONG_RULES, LONG_WORD, LONG_MANY)
            self.assertEqual(len(walk.found), LONG_MANY)


if __name__ == "__main__":
    unittest.main()
