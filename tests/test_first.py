"""Point 26: the first table, its paper and its ladder; points 2 and 3 on these."""

import unittest

from boughturn.acting import led
from boughturn.closed import rests
from boughturn.first import first_ladder, first_paper, first_table
from boughturn.floors import settled
from boughturn.ladders import climb, look_ladder
from boughturn.orders import order
from boughturn.papers import look_paper
from boughturn.tables import is_table
from boughturn.turners import hands_on, makes
from tests.oracle import all_ways, all_words, does_nothing, leads_by_rows
from tests.samples import chance_words, lists_within


class FirstTests(unittest.TestCase):

    def test_the_table_as_it_is_told(self):
        a, b, c, d = range(1, 5)
        table = first_table()
        self.assertIs(is_table(table), True)
        self.assertEqual(table[0], 2)
        self.assertEqual(len(table[1]), 4)
        self.assertEqual([makes(table, a, letter) for letter in (0, 1)], [1, 0])
        for turner in (b, c, d):
            self.assertEqual([makes(table, turner, letter) for letter in (0, 1)], [0, 1])
        handed = [[hands_on(table, turner, letter) for letter in (0, 1)] for turner in (a, b, c, d)]
        self.assertEqual(handed, [[0, 0], [a, c], [a, d], [0, b]])
        self.assertEqual(table, (2, (((1, 0), (0, 0)), ((0, 1), (1, 3)), ((0, 1), (1, 4)), ((0, 1), (0, 2)))))

    def test_the_paper_is_let_by(self):
        paper = first_paper()
        self.assertIsNone(look_paper(first_table(), paper))
        self.assertIsInstance(paper, tuple)
        self.assertIsInstance(paper[0], list)
        self.assertIsInstance(paper[1], list)
        for rule in paper[0]:
            self.assertIsInstance(rule, tuple)

    def test_the_ladder_is_let_by(self):
        ladder = first_ladder()
        self.assertIsNone(look_ladder(first_table(), ladder))
        self.assertIsInstance(ladder, tuple)
        self.assertIsInstance(ladder[1], list)
        self.assertIsInstance(ladder[2], list)
        # Only so are ways of six letters promised.
        self.assertLessEqual(max(len(word) for word in ladder[1] + ladder[2]), 3)

    def test_told_again_after_the_asker_changed_them(self):
        for told_by in (first_paper, first_ladder):
            kept = repr(told_by())
            told = told_by()
            lists = list(lists_within(told))
            self.assertEqual(len({id(each) for each in lists}), len(lists))
            for each in lists:
                each.append(1)
                each.reverse()
            for each in lists:
                each.clear()
            self.assertEqual(repr(told_by()), kept)
        self.assertIsNone(look_paper(first_table(), first_paper()))
        self.assertIsNone(look_ladder(first_table(), first_ladder()))

    def test_each_word_comes_to_nothing_done_a_power_of_two_times(self):
        table, paper = first_table(), first_paper()
        for word in all_words((1, 2, 3, 4, -3), 4):
            kind, many, book = order(table, paper, word, 300)
            self.assertEqual(kind, "order")
            self.assertEqual(many & (many - 1), 0, word)
            self.assertEqual(settled(table, paper, word * many)[0], "rests")
            if many > 1:
                self.assertEqual(settled(table, paper, word * (many // 2))[0], "moves")

    def test_long_words_done_a_power_of_two_times(self):
        table, paper = first_table(), first_paper()
        for word in chance_words(26, table, (7, 13, 24, 41, 60, 60)):
            kind, many, book = order(table, paper, word, 1000)
            self.assertEqual(kind, "order")
            self.assertEqual(many & (many - 1), 0)
            way = [0, 1, 1, 0, 1, 0, 0, 0, 1]
            self.assertEqual(leads_by_rows(table, word * many, way), way)

    def test_settled_rightly(self):
        table, paper = first_table(), first_paper()
        for word in all_words((1, 2, 3, 4), 4):
            kind, told = settled(table, paper, word)
            self.assertEqual(kind == "rests", does_nothing(table, word), word)
            self.assertEqual(kind, rests(table, word, 300)[0])

    def test_any_way_is_led_to_any_other_one(self):
        table, ladder = first_table(), first_ladder()
        for many in range(5):
            for one in all_ways(table, many):
                for other in all_ways(table, many):
                    self.assertEqual(led(table, climb(table, ladder, one, other), one), other)
        ways = all_ways(table, 6)
        for one, other in zip(ways, ways[::-1] + ways[5:]):
            self.assertEqual(leads_by_rows(table, climb(table, ladder, one, other), one), other)


if __name__ == "__main__":
    unittest.main()
