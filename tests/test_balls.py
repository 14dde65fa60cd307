"""Point 24: balls; point 2 on these."""

import copy
import unittest

from boughturn.balls import ball
from boughturn.closed import alike
from boughturn.papers import look_paper
from boughturn.words import before
from tests.oracle import all_words, does_nothing, rank_key, rising_turners
from tests.sample_papers import (
    BASIL, DRAGON, EVERY_OTHER, FIRST_PAPER, PAPERS, SHALLOW_FOUR, SHALLOW_THREE, THREES, paper_of, shown_by,
)
from tests.samples import COUNT_THREE, COUNT_TWO, FIRST, NO_ROWS, TWIN_FOUR, lists_within

MOST_WORDS = 400


def ball_by_force(table, n):
    """The ball, by going through all words and all that come before each of them."""
    kept = []
    for word in sorted(all_words(rising_turners(table), n), key=rank_key):
        if not any(does_nothing(table, word + [-turner for turner in other[::-1]]) for other in kept):
            kept.append(word)
    return [[word for word in kept if len(word) == many] for many in range(n + 1)]


def balls_of(table, paper):
    """The balls of 0 to 5 of which nothing is beyond the bounds."""
    for n in range(6):
        told = ball(table, paper, n)
        if sum(len(level) for level in told) > MOST_WORDS:
            return
        yield n, told


class BallTests(unittest.TestCase):

    def test_told_balls(self):
        self.assertEqual(ball(FIRST, FIRST_PAPER, 0), [[[]]])
        self.assertEqual(ball(FIRST, FIRST_PAPER, 1), [[[]], [[1], [2], [3], [4]]])
        self.assertEqual(ball(FIRST, FIRST_PAPER, 2), [
            [[]], [[1], [2], [3], [4]], [[1, 2], [1, 3], [1, 4], [2, 1], [3, 1], [4, 1]],
        ])

    def test_contraries_among_the_turners(self):
        for table in (COUNT_TWO, COUNT_THREE, TWIN_FOUR):
            told = ball(table, paper_of(table), 5)
            self.assertEqual(told, [[[]]] + [[[1] * many, [-1] * many] for many in range(1, 6)])
        self.assertEqual(ball(THREES, paper_of(THREES), 2), [[[]], [[1], [-1], [2], [-2]], [
            [1, 2], [1, -2], [-1, 2], [-1, -2], [2, 1], [2, -1], [-2, 1], [-2, -1],
        ]])

    def test_no_rows(self):
        for letters in (2, 3, 4):
            for n in range(6):
                self.assertEqual(ball((letters, ()), ([], [], 2, 1), n), [[[]]] + [[]] * n)
        self.assertEqual(ball(NO_ROWS, paper_of(NO_ROWS), 5), [[[]], [], [], [], [], []])

    def test_by_brute_force(self):
        for table, paper in PAPERS:
            most = 3 if len(table[1]) < 3 else 2
            for n in range(most + 1):
                self.assertEqual(ball(table, paper, n), ball_by_force(table, n), (table, n))

    def test_how_many(self):
        samples = (
            (FIRST, [1, 4, 6, 12, 17, 28]), (THREES, [1, 4, 8, 16, 32, 64]), (BASIL, [1, 4, 12, 36, 100, 268][:5]),
            (EVERY_OTHER, [1, 4, 8, 12, 16, 20]), (DRAGON, [1, 6, 12, 18, 24, 30]),
        )
        for table, many in samples:
            told = ball(table, paper_of(table), len(many) - 1)
            self.assertEqual([len(level) for level in told], many)

    def test_each_ball_is_the_beginning_of_the_next(self):
        for table, paper in PAPERS:
            told = [each for n, each in balls_of(table, paper)]
            for n, each in enumerate(told):
                self.assertEqual(len(each), n + 1)
                self.assertEqual(each, told[-1][:n + 1])

    def test_the_order_within_each_list(self):
        for table, paper in PAPERS:
            for n, told in balls_of(table, paper):
                for many, level in enumerate(told):
                    self.assertEqual({len(word) for word in level} - {many}, set())
                    for word, other in zip(level, level[1:]):
                        self.assertIs(before(word, other), True)

    def test_no_two_words_are_alike(self):
        for table, paper in PAPERS:
            words = [word for level in ball(table, paper, 3 if table[0] == 2 else 2) for word in level]
            for at, word in enumerate(words):
                for other in words[:at]:
                    self.assertEqual(alike(table, word, other, 300)[0], "moves")

    def test_words_left_out_are_alike_to_one_before(self):
        for table, paper in PAPERS:
            told = ball(table, paper, 2)
            for level, longer in zip(told, told[1:]):
                for word in [word + [turner] for word in level for turner in rising_turners(table)]:
                    if word not in longer:
                        ahead = [other for each in told for other in each if before(other, word)]
                        self.assertTrue(any(alike(table, word, other, 300)[0] == "rests" for other in ahead))

    def test_papers_that_cut_nothing(self):
        # By papers without rules all words are stiff, though many of them are alike.
        for table in (SHALLOW_THREE, SHALLOW_FOUR):
            paper = paper_of(table)
            self.assertEqual(list(paper[0]), [])
            self.assertEqual(ball(table, paper, 2), ball_by_force(table, 2))

    def test_rows_that_are_told_apart_far_down(self):
        # Each row's turner does something one letter deeper than that of the row behind it.
        table = (2, tuple(((0, 1), (k + 1, 0)) for k in range(1, 4)) + (((1, 0), (0, 0)),))
        rules = [([-k], [k]) for k in range(1, 5)] + [([k, k], []) for k in range(1, 5)]
        paper = (rules, shown_by(table, rules), 2, 3)
        self.assertIsNone(look_paper(table, paper))
        self.assertEqual(ball(table, paper, 1), [[[]], [[k] for k in range(1, 5)]])
        self.assertEqual(ball(table, paper, 3), ball_by_force(table, 3))

    def test_papers_of_tuples(self):
        for table, (rules, closed, length, depth) in PAPERS:
            paper = (tuple(rules), tuple(closed), length, depth)
            self.assertEqual(ball(table, paper, 2), ball(table, (list(rules), list(closed), length, depth), 2))

    def test_what_was_handed_in_stays(self):
        for table, paper in PAPERS:
            kept = copy.deepcopy(paper)
            ball(table, paper, 2)
            self.assertEqual(paper, kept)

    def test_told_again_after_what_was_told_was_changed(self):
        for table, paper in PAPERS:
            for n in (0, 1, 2):
                told = ball(table, paper, n)
                first = copy.deepcopy(told)
                lists = [id(each) for each in lists_within(told)]
                self.assertEqual(len(set(lists)), len(lists))
                for each in list(lists_within(told)):
                    each.append(1)
                self.assertEqual(ball(table, paper, n), first)


if __name__ == "__main__":
    unittest.main()
