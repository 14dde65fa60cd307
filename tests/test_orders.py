"""Points 18, 19 and 20: orders, round forms, and words without an order; points 2 and 3 on these."""

import copy
import random
import unittest
from unittest import mock

from boughturn import strides
from boughturn.acting import led
from boughturn.belows import below
from boughturn.floors import settled
from boughturn.orderbooks import is_order_book
from boughturn.orders import order, round_form
from boughturn.papers import look_paper
from boughturn.words import contrary
from tests.oracle import all_words, leads_by_rows, rank_key, round_form as oracle_form, steps_of, stepped_to
from tests.sample_long import (
    DOUBLING, DOUBLING_PAPER, LONG_FOUR, LONG_MANY, LONG_PAPER, LONG_WORD, LONGEST,
)
from tests.sample_papers import (
    BASIL, DRAGON, EVERY_OTHER, FIRST_PAPER, PAPERS, SHALLOW_FOUR, SHALLOW_THREE, THREES, paper_of,
)
from tests.samples import COUNT_THREE, COUNT_TWO, FIRST, TWIN_FOUR, chance_words, lists_within, turners

# Words that steps lead from on for ever are not asked for with a most this high.
MOST = 1000


def does_nothing(table, paper, word):
    return settled(table, paper, word)[0] == "rests"


class RoundFormTests(unittest.TestCase):

    def form(self, rules, word):
        return round_form((rules, [], 2, 1), word)

    def test_the_first_of_alike_long_ones(self):
        self.assertEqual(self.form([], [2, 1]), [1, 2])
        self.assertEqual(self.form([], [3, 1, 2, 1, 1]), [1, 1, 3, 1, 2])
        self.assertEqual(self.form([], [-1, 1]), [1, -1])
        self.assertEqual(self.form([], [2, 1, 2, 1, 2]), [1, 2, 1, 2, 2])
        self.assertEqual(self.form([], [4] * 60), [4] * 60)

    def test_no_turners(self):
        for table, paper in PAPERS:
            self.assertEqual(round_form(paper, []), [])
        self.assertEqual(self.form([([1], [])], [1] * 60), [])

    def test_cut_first(self):
        self.assertEqual(self.form([([2, 2], [])], [3, 2, 2, 1]), [1, 3])
        self.assertEqual(self.form([([-1], [1])], [-1, -1]), [1, 1])

    def test_a_cut_after_turning_about_makes_it_shorter(self):
        self.assertEqual(self.form([([1, 1], [])], [1, 2, 1]), [2])
        self.assertEqual(self.form([([1, 1], [])], [1, 2, 3, 1]), [2, 3])
        self.assertEqual(round_form(FIRST_PAPER, [1, 4, 1]), [4])
        self.assertEqual(round_form(FIRST_PAPER, [2, 1, 3]), [1, 4])
        self.assertEqual(round_form(FIRST_PAPER, [1, 2, 1, 4, 1, 2, 1]), [4])

    def test_several_times_over(self):
        # Turned about and cut, the word can be turned about and cut anew.
        self.assertEqual(self.form([([1, 2], []), ([3, 4], [1])], [4, 2, 3]), [])
        self.assertEqual(self.form([([1, 2], [3]), ([4, 3], [5]), ([5, 6], [])], [2, 6, 4, 1]), [])

    def test_whose_round_form_is_the_word_without_turners(self):
        for word in ([1, -1], [-2, 1, -1, 2], [3, 3, 1, -1, -3, -3]):
            pairs = [([k, -k], []) for k in (1, 2, 3)] + [([-k, k], []) for k in (1, 2, 3)]
            self.assertEqual(self.form(pairs, word), [])
        self.assertEqual(self.form([([1, 2], [])], [2, 1]), [])

    def test_turned_about_where_it_is_cut_the_most(self):
        # Which of the turned words comes first hangs on where the two parts meet.
        rules = [([1, 2], [5]), ([2, 3, 1], []), ([3, 1], [4])]
        for word in all_words((1, 2, 3, 4), 5):
            self.assertEqual(self.form(rules, word), oracle_form(rules, word))

    def test_as_all_partings_tell(self):
        chance = random.Random(19)
        for _ in range(300):
            rules = []
            for _ in range(chance.choice((1, 2, 4, 6))):
                left = [chance.choice((1, -1, 2, -2)) for _ in range(chance.choice((2, 2, 3, 3, 4, 6)))]
                rules.append((left, [chance.choice((1, -1, 2, -2)) for _ in range(chance.randint(0, len(left) - 1))]))
            word = [chance.choice((1, -1, 2, -2)) for _ in range(chance.choice((2, 4, 7, 15)))]
            self.assertEqual(self.form(rules, word), oracle_form(rules, word), (rules, word))

    def test_papers(self):
        for table, paper in PAPERS:
            for word in chance_words(20, table, (1, 3, 6, 12, 25)):
                told = round_form(paper, word)
                self.assertEqual(told, oracle_form(paper[0], word))
                self.assertEqual(round_form(paper, told), told)
                self.assertEqual(round_form((tuple(paper[0]), tuple(paper[1]), *paper[2:]), word), told)
                self.assertLessEqual(rank_key(told), rank_key(word))

    def test_long_words(self):
        for table, paper in PAPERS:
            for word in chance_words(21, table, (60, 60)):
                told = round_form(paper, word)
                self.assertEqual(round_form(paper, word[17:] + word[:17]) == [], told == [])
                self.assertEqual(round_form(paper, told), told)

    def test_a_new_list_and_what_was_handed_in_stays(self):
        for word in ([], [1], [1, 2], [2, 1], [1, 4, 1]):
            kept = list(word)
            told = round_form(FIRST_PAPER, word)
            first = list(told)
            told.append(1)
            self.assertEqual(word, kept)
            self.assertEqual(round_form(FIRST_PAPER, word), first)


class OrderTests(unittest.TestCase):

    def check_order(self, table, paper, word, told):
        """The book is taken; done so often the word does nothing, and done fewer times it does something."""
        kind, many, book = told
        self.assertIs(type(many), int)
        self.assertIs(is_order_book(table, paper, word, book), True, (table, word))
        self.assertEqual(book[0][0], round_form(paper, word))
        self.assertEqual(book[0][1], many)
        if many * len(word) < 2000:
            self.assertTrue(does_nothing(table, paper, word * many), (table, word))
            for fewer in range(1, many):
                if many % fewer == 0:
                    self.assertFalse(does_nothing(table, paper, word * fewer), (table, word, fewer))

    def check_never(self, table, paper, word, told):
        """The word, way, many and turner are as the point says."""
        kind, other, way, many, turner = told
        self.assertIn(other, stepped_to(table, paper[0], word, MOST))
        self.assertGreater(many, 1)
        reached = way
        for times in range(1, many + 1):
            reached = led(table, other, reached)
            self.assertEqual(reached == way, times == many, (table, word))
        handed = below(table, other * many, way)
        self.assertTrue(does_nothing(table, paper, contrary(turner) + handed + turner + contrary(other)), (table, word))

    def check(self, table, paper, word, most=MOST):
        """What is told is shown; it is told whole."""
        told = order(table, paper, word, most)
        self.assertIsInstance(told, tuple)
        if told[0] == "open":
            self.assertEqual(told, ("open", most))
            self.assertGreater(len(stepped_to(table, paper[0], word, most)), most)
        elif told[0] == "order":
            self.check_order(table, paper, word, told)
        else:
            self.assertEqual(told[0], "never")
            self.check_never(table, paper, word, told)
        return told

    def has(self, table, paper, word, many):
        self.assertEqual(self.check(table, paper, word)[:2], ("order", many), word)

    def test_no_turners(self):
        for table, paper in PAPERS:
            steps = [(letter, 1, []) for letter in range(table[0])]
            self.assertEqual(order(table, paper, [], 1), ("order", 1, [([], 1, steps)]))

    def test_powers_of_two(self):
        samples = (
            ([1, 1], 1), ([2, 3, 4], 1), ([1], 2), ([2], 2), ([-4], 2), ([1, 4], 4), ([4, 1], 4), ([1, 3], 8),
            ([1, 2], 16), ([1, 2, 1, 2], 8), ([1, 2, 1, 3], 8), ([1, 2] * 16, 1), ([1, 3] * 4, 2), ([1, 2, 1], 2),
        )
        for word, many in samples:
            self.has(FIRST, FIRST_PAPER, word, many)
        for word in chance_words(23, FIRST, (5, 10, 20, 40, 60, 60, 60)):
            told = self.check(FIRST, FIRST_PAPER, word)
            self.assertEqual(told[0], "order")
            self.assertEqual(told[1] & (told[1] - 1), 0)

    def test_a_book_told(self):
        told = order(FIRST, FIRST_PAPER, [4, 1], MOST)
        self.assertEqual(told, ("order", 4, [
            ([1, 4], 4, [(0, 2, [2])]),
            ([2], 2, [(0, 1, [1]), (1, 1, [3])]),
            ([1], 2, [(0, 2, [])]),
            ([3], 2, [(0, 1, [1]), (1, 1, [4])]),
            ([], 1, [(0, 1, []), (1, 1, [])]),
            ([4], 2, [(0, 1, []), (1, 1, [2])]),
        ]))

    def test_powers_of_three(self):
        paper = paper_of(THREES)
        for word, many in (([1], 3), ([2], 3), ([1, 1, 1], 1), ([1, 2], 9), ([-1, 2], 9), ([1, 2, -1, -2], 9)):
            self.has(THREES, paper, word, many)
        for word in chance_words(24, THREES, (6, 12, 25)):
            many = self.check(THREES, paper, word)[1]
            self.assertIn(many, (1, 3, 9, 27, 81, 243))

    def test_no_power_of_two(self):
        three, four = paper_of(SHALLOW_THREE), paper_of(SHALLOW_FOUR)
        for word, many in (([1], 2), ([2], 3), ([3], 6), ([4], 6), ([1, 2], 2), ([4, 3], 4), ([2, 3], 6)):
            self.has(SHALLOW_THREE, three, word, many)
        for word, many in (([1], 12), ([2], 3), ([3], 6), ([-1], 12), ([1, 1], 6), ([1] * 12, 1), ([1] * 8, 3)):
            self.has(SHALLOW_FOUR, four, word, many)

    def test_rings_of_several_orders(self):
        # A ring of three, whose round word has the order two, beside one letter, below which four letters go round.
        table = (4, (
            ((1, 2, 0, 3), (2, 0, 0, 3)), ((1, 0, 2, 3), (0, 0, 0, 0)), ((1, 2, 3, 0), (0, 0, 0, 0)),
        ))
        self.has(table, ([], [], 2, 2), [1], 12)
        self.has(table, ([], [], 2, 2), [1, 1], 6)
        self.has(table, ([], [], 2, 2), [3], 4)

    def test_words_by_brute_force(self):
        for table in (SHALLOW_THREE, SHALLOW_FOUR, FIRST, THREES):
            paper = paper_of(table)
            for word in all_words((1, -2, turners(table)[-1]), 3):
                many = 1
                while not does_nothing(table, paper, word * many):
                    many += 1
                self.has(table, paper, word, many)

    def test_words_without_an_order(self):
        for table in (COUNT_TWO, COUNT_THREE, TWIN_FOUR):
            for word in ([1], [-1], [1] * 2, [1] * 5, [1] * 60, [-1, 1, 1, 1], [-1] * 48):
                self.assertEqual(self.check(table, paper_of(table), word)[0], "never")
        self.assertEqual(order(COUNT_TWO, paper_of(COUNT_TWO), [1], 1), ("never", [1], [0], 2, []))
        self.assertEqual(order(COUNT_THREE, paper_of(COUNT_THREE), [-1], 1), ("never", [-1], [0], 3, []))

    def test_words_without_an_order_turned_about(self):
        for word in all_words((1, 2, -1, -2), 4):
            kind = self.check(BASIL, paper_of(BASIL), word)[0]
            self.assertEqual(kind == "order", does_nothing(BASIL, paper_of(BASIL), word), word)
        for word in chance_words(25, BASIL, (6, 7, 8, 10, 12)):
            kind = self.check(BASIL, paper_of(BASIL), word)[0]
            self.assertEqual(kind == "order", does_nothing(BASIL, paper_of(BASIL), word), word)

    def test_rings_of_steps_of_several_words(self):
        for table in (EVERY_OTHER, BASIL):
            for word in ([1], [2], [1, 2], [1, 1, 2], [1, -2], [2, 2, 1], [1] * 12, [1, 2] * 6, [1, 1, 2, 2, 2]):
                told = self.check(table, paper_of(table), word)
                self.assertEqual(told[0], "never")

    def test_a_ring_that_steps_lead_to(self):
        # The first turner hands on one that adds one; what steps lead to has no order, so it has none.
        table = (2, (((0, 1), (2, 0)), ((1, 0), (0, 2))))
        pairs = [([k, -k], []) for k in (1, 2)] + [([-k, k], []) for k in (1, 2)]
        told = self.check(table, (pairs, [[]], 2, 1), [1])
        self.assertEqual(told, ("never", [2], [0], 2, []))

    def test_a_ring_of_steps_that_does_not_turn(self):
        self.has(FIRST, FIRST_PAPER, [2], 2)
        table = (2, (((0, 1), (1, 2)), ((1, 0), (0, 0))))
        self.has(table, ([([2, 2], []), ([-2], [2]), ([-1], [1]), ([1, 1], [])], [
            [1, 1], [2, 2], [], [-2, -2], [-1, -1],
        ], 2, 1), [1], 2)

    def test_a_most_just_enough_and_one_fewer(self):
        samples = [
            (FIRST, [1, 2]), (FIRST, [4]), (FIRST, [1, 2, 1, 3, 1, 4]), (THREES, [1, 2]), (SHALLOW_THREE, [4, 3]),
            (SHALLOW_FOUR, [1]), (BASIL, [1, 2, -1, -2]), (EVERY_OTHER, [1, 2]), (COUNT_TWO, [1] * 12),
        ]
        for table, word in samples:
            paper = paper_of(table)
            many = len(stepped_to(table, paper[0], word, MOST))
            for most in (many, many + 1, MOST):
                self.assertNotEqual(self.check(table, paper, word, most)[0], "open", (table, word))
            if many > 1:
                self.check(table, paper, word, many - 1)
                self.check(table, paper, word, 1)

    def test_each_most(self):
        for table, paper in PAPERS:
            if table != DRAGON:
                for word in chance_words(26, table, (2, 5, 9)):
                    many = len(stepped_to(table, paper[0], word, MOST))
                    for most in range(1, min(many, 12) + 2):
                        told = self.check(table, paper, word, most)
                        self.assertTrue(told[0] != "open" or most < many)

    def test_steps_that_lead_on_for_ever(self):
        paper = paper_of(DRAGON)
        for word in ([1], [2], [1, 2], [3], [1, -2]):
            for most in (1, 2, 5, 8):
                self.assertEqual(self.check(DRAGON, paper, word, most)[0], "open")
        for word in ([1], [2, 3], [1, 1, -3] * 20):
            for most in (300, 1000):
                self.assertEqual(order(DRAGON, paper, word, most), ("open", most))

    def test_papers_of_tuples(self):
        for table, (rules, closed, length, depth) in PAPERS:
            if table != DRAGON:
                for word in chance_words(27, table, (3, 6)):
                    paper = (tuple(rules), tuple(closed), length, depth)
                    told = order(table, paper, word, MOST)
                    self.assertEqual(told, order(table, (rules, closed, length, depth), word, MOST))

    def test_words_by_chance(self):
        for table, paper in PAPERS:
            if table != DRAGON:
                for word in chance_words(28, table, (1, 2, 3, 4, 6, 9)):
                    self.check(table, paper, word)

    def test_long_words(self):
        for table, paper in PAPERS:
            if table != DRAGON:
                for word in chance_words(29, table, (60, 60)):
                    told = order(table, paper, word, MOST)
                    if told[0] == "order":
                        self.assertIs(is_order_book(table, paper, word, told[2]), True)
                    else:
                        self.assertEqual(told[0], "never")
                        if told[3] < 500:
                            self.check_never(table, paper, word, told)

    def test_the_order_by_the_rings(self):
        """The least common multiple, over the rings, of the ring's length times the round word's order."""
        for table in (FIRST, THREES, SHALLOW_THREE, SHALLOW_FOUR):
            paper = paper_of(table)
            for word in all_words((1, 2), 3):
                told = order(table, paper, word, MOST)[1]
                steps = steps_of(table, paper[0], word)
                parts = [many * order(table, paper, target, MOST)[1] for letter, many, target in steps]
                self.assertEqual([told % part for part in parts], [0] * len(parts))
                self.assertFalse(any(all(fewer % part == 0 for part in parts) for fewer in range(1, told)))

    def test_ways_are_led_back_as_the_order_tells(self):
        for word in ([1, 2], [1, 3], [1, 2, 1, 4]):
            many = order(FIRST, FIRST_PAPER, word, MOST)[1]
            way = [0, 1, 0, 0, 1, 1, 0, 1]
            self.assertEqual(leads_by_rows(FIRST, word * many, way), way)


class LongStepsTests(unittest.TestCase):
    """Point 20, however many turners the words have to which steps lead."""

    def check_never(self, table, paper, told):
        kind, other, way, many, turner = told
        self.assertEqual(kind, "never")
        self.assertGreater(many, 1)
        reached = way
        for times in range(1, many + 1):
            reached = led(table, other, reached)
            self.assertEqual(reached == way, times == many)
        about = contrary(turner) + below(table, other * many, way) + turner + contrary(other)
        self.assertTrue(does_nothing(table, paper, about))

    def test_the_papers_are_let_by(self):
        self.assertIsNone(look_paper(LONG_FOUR, LONG_PAPER))
        self.assertIsNone(look_paper(DOUBLING, DOUBLING_PAPER))

    def test_few_words_of_many_turners(self):
        for most in (LONG_MANY, 300, 1000):
            self.check_never(LONG_FOUR, LONG_PAPER, order(LONG_FOUR, LONG_PAPER, LONG_WORD, most))
        self.assertEqual(order(LONG_FOUR, LONG_PAPER, LONG_WORD, LONG_MANY - 1), ("open", LONG_MANY - 1))
        self.assertGreater(LONGEST, 7000 * len(LONG_WORD))

    def test_the_same_words_done_several_times(self):
        for times in (3, 7):
            told = order(LONG_FOUR, LONG_PAPER, LONG_WORD * times, LONG_MANY)
            self.assertEqual(told[0], "never")
            self.assertGreater(told[3], 1)
            self.assertEqual(order(LONG_FOUR, LONG_PAPER, LONG_WORD * times, LONG_MANY - 1)[0], "open")

    def test_steps_that_lead_on_for_ever_to_words_done_more_often(self):
        for word in ([1, 2], [2, 1], [1, 2] * 30):
            for most in (1, 8, 300, 1000):
                self.assertEqual(order(DOUBLING, DOUBLING_PAPER, word, most), ("open", most))
        for most in (1, 4, 8):
            self.assertGreater(len(stepped_to(DOUBLING, DOUBLING_PAPER[0], [1, 2], most)), most)

    def test_what_is_told_where_steps_are_too_much_work(self):
        with mock.patch.object(strides, "MOST_WORK", 0):
            self.assertEqual(order(COUNT_TWO, paper_of(COUNT_TWO), [1], 300), ("open", 300))
        # By one ring the word is done twice as often, step by step; below the last letter it adds one.
        table = (4, (((1, 2, 0, 3), (0, 1, 1, 2)), ((1, 0, 2, 3), (0, 2, 0, 0))))
        paper = ([([k, -k], []) for k in (1, 2, -1, -2)], [[]], 2, 1)
        self.assertEqual(order(table, paper, [1], 300), ("open", 300))
        with mock.patch.object(strides, "MOST_WORK", 2000):
            self.assertEqual(order(table, paper, [1], 300), ("never", [2], [0], 2, []))


class OwnListTests(unittest.TestCase):

    samples = (
        (FIRST, FIRST_PAPER, [1, 2]), (FIRST, FIRST_PAPER, []), (BASIL, paper_of(BASIL), [1, 2, 2, -1, 2]),
        (COUNT_TWO, paper_of(COUNT_TWO), [1]),
    )

    def test_what_was_handed_in_stays(self):
        for table, paper, word in self.samples:
            kept = copy.deepcopy((paper, word))
            order(table, paper, word, MOST)
            self.assertEqual((paper, word), kept)

    def test_each_list_is_its_own(self):
        for table, paper, word in self.samples:
            told = order(table, paper, word, MOST)
            lists = [id(each) for each in lists_within(told)]
            self.assertEqual(len(set(lists)), len(lists), told)
            self.assertEqual(set(lists) & {id(each) for each in lists_within((paper, word))}, set())

    def test_told_again_after_what_was_told_was_changed(self):
        for table, paper, word in self.samples:
            told = order(table, paper, word, MOST)
            first = copy.deepcopy(told)
            for each in list(lists_within(told)):
                each.append(1)
            self.assertEqual(order(table, paper, word, MOST), first)


if __name__ == "__main__":
    unittest.main()
