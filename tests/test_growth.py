"""Point 20: steps that are shown to lead to more words than the most without going through them."""

import unittest

from boughturn.growth import Growth, all_turnings, counts_of, herds, ring_size
from boughturn.signs import text_of
from tests.oracle import round_form, stepped_to
from tests.sample_long import DOUBLING, DOUBLING_PAPER, LONG_FOUR, LONG_PAPER, LONG_WORD
from tests.sample_papers import (
    BASIL, DRAGON, EVERY_OTHER, FIRST_PAPER, PAPERS, SHALLOW_FOUR, SHALLOW_THREE, THREES, paper_of,
)
from tests.samples import COUNT_THREE, COUNT_TWO, FIRST, NO_ROWS, chance_words


def pairs(table):
    """The rules that take out a turner beside its contrary."""
    rows = range(1, len(table[1]) + 1)
    return [([k, -k], []) for k in rows] + [([-k, k], []) for k in rows]


# One turner: its ring of three letters has it twice; done twice, it has it four times, and so on.
TWICE_OF_THREE = (3, (((1, 2, 0), (0, 1, 1)),))
# The same beside a letter that stays, below which there is another turner.
TWICE_AND_ONE = (4, (((1, 2, 0, 3), (0, 1, 1, 2)), ((0, 1, 2, 3), (0, 0, 0, 0))))
# Three times of four letters; the second turner turns the letters the other way round.
THRICE_OF_FOUR = (4, (((1, 2, 3, 0), (0, 1, 1, 1)), ((0, 3, 2, 1), (0, 0, 0, 0))))


def shows(table, rules, word, most):
    """Whether it is shown for some herd."""
    return any(Growth(table, rules, herd).leads_to_more(text_of(word), 1, most) for herd in herds(table))


class HerdTests(unittest.TestCase):

    def test_herds(self):
        self.assertEqual(herds(FIRST), [[0, 1]])
        self.assertEqual(herds(NO_ROWS), [])
        self.assertEqual(herds(TWICE_AND_ONE), [[0, 1, 2]])
        self.assertEqual(herds((4, (((1, 0, 2, 3), (0,) * 4), ((0, 1, 3, 2), (0,) * 4)))), [[0, 1], [2, 3]])
        self.assertEqual(herds((4, (((1, 0, 2, 3), (0,) * 4), ((0, 2, 1, 3), (0,) * 4)))), [[0, 1, 2]])

    def test_turnings(self):
        self.assertEqual(all_turnings(2, []), [(0, 1)])
        self.assertEqual(len(all_turnings(4, [(1, 2, 3, 0)])), 4)
        self.assertEqual(len(all_turnings(4, [(1, 2, 3, 0), (1, 0, 2, 3)])), 24)
        self.assertEqual([ring_size((1, 2, 0, 3), letter) for letter in range(4)], [3, 3, 3, 1])

    def test_counts(self):
        self.assertEqual(counts_of(FIRST, [1, -2, 1, 0, -4, -2]), [2, -2, 0, -1])


class GrowthTests(unittest.TestCase):

    def test_words_that_are_done_more_and_more_often(self):
        for table in (TWICE_OF_THREE, TWICE_AND_ONE, THRICE_OF_FOUR):
            for word in ([1], [-1], [1] * 5, [-1] * 7):
                self.assertTrue(shows(table, pairs(table), word, 1000), (table, word))
        self.assertTrue(shows(DRAGON, paper_of(DRAGON)[0], [1], 1000))

    def test_words_done_so_often_that_a_ring_is_parted(self):
        self.assertFalse(shows(TWICE_OF_THREE, pairs(TWICE_OF_THREE), [1] * 3, 1))
        self.assertFalse(shows(THRICE_OF_FOUR, pairs(THRICE_OF_FOUR), [1] * 2, 1))
        self.assertFalse(shows(TWICE_OF_THREE, pairs(TWICE_OF_THREE), [], 1))

    def test_times(self):
        growth = Growth(TWICE_OF_THREE, pairs(TWICE_OF_THREE), [0, 1, 2])
        self.assertTrue(growth.leads_to_more(text_of([1]), 10 ** 30, 1000))
        self.assertFalse(growth.leads_to_more(text_of([1]), 3 * 10 ** 30, 1000))

    def test_steps_that_come_to_an_end(self):
        for table in (FIRST, THREES, COUNT_TWO, COUNT_THREE, BASIL, EVERY_OTHER, SHALLOW_THREE, SHALLOW_FOUR):
            for word in chance_words(7, table, (1, 2, 3, 6, 12, 30)):
                many = len(stepped_to(table, paper_of(table)[0], word, 300))
                self.assertLessEqual(many, 300)
                self.assertFalse(shows(table, paper_of(table)[0], round_form(paper_of(table)[0], word), many))
        self.assertFalse(shows(LONG_FOUR, LONG_PAPER[0], LONG_WORD, 70))

    def test_what_is_shown_is_so(self):
        shown = 0
        others = [(table, (pairs(table),)) for table in (TWICE_OF_THREE, TWICE_AND_ONE, THRICE_OF_FOUR, DOUBLING)]
        for table, paper in [*PAPERS, *others]:
            for word in chance_words(8, table, (1, 1, 1, 2, 3, 5)):
                form = round_form(paper[0], word)
                for most in (1, 2, 3, 5):
                    if shows(table, paper[0], form, most):
                        shown += 1
                        self.assertGreater(len(stepped_to(table, paper[0], form, most)), most, (table, word))
        self.assertGreater(shown, 40)

    def test_a_rule_that_changes_the_counts(self):
        # With such rules words of unlike counts can be the same: nothing is shown.
        self.assertFalse(shows(TWICE_OF_THREE, [([1, 1], [])], [1], 1))
        self.assertFalse(shows(FIRST, FIRST_PAPER[0], [1, 2], 4))

    def test_turnings_that_the_counts_do_not_tell(self):
        # A swap of two letters and a ring of three: words of the same counts can have other rings.
        self.assertFalse(shows(DOUBLING, DOUBLING_PAPER[0], [2], 1))


if __name__ == "__main__":
    unittest.main()
