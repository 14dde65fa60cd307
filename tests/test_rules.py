"""Point 13: rules, and words cut by them; point 2."""

import copy
import random
import unittest

from boughturn.floors import settled
from boughturn.rules import cut, is_rule
from boughturn.words import contrary
from tests.oracle import cut_word
from tests.sample_papers import FIRST_PAPER, PAPERS
from tests.samples import EIGHT_ROWS, FIRST, NO_ROWS, ODD_THINGS, TABLES, turners


class IsRuleTests(unittest.TestCase):

    def yes(self, table, thing):
        self.assertIs(is_rule(table, thing), True, thing)

    def no(self, table, thing):
        self.assertIs(is_rule(table, thing), False, thing)

    def test_fewer_turners(self):
        self.yes(FIRST, ([1], []))
        self.yes(FIRST, ([1, 1], []))
        self.yes(FIRST, ([1, -4], [3]))
        self.yes(FIRST, ([1, 2, 3], [4, 4]))
        self.yes(FIRST, ([1, -1], [1]))

    def test_as_many_on_both_sides(self):
        self.no(FIRST, ([], []))
        for many in range(2, 7):
            self.no(FIRST, ([-4] * many, [1] * many))
            self.no(FIRST, ([1] * many, [1] * many))
            self.no(FIRST, ([1] * many, [-4] * many))

    def test_more_on_the_right(self):
        self.no(FIRST, ([], [1]))
        self.no(FIRST, ([-4], [1, 1]))
        self.no(FIRST, ([1] * 5, [1] * 6))

    def test_one_turner_each_with_ranks_either_way(self):
        rising = [turner for k in range(1, 9) for turner in (k, -k)]
        for at, turner in enumerate(rising):
            self.no(EIGHT_ROWS, ([turner], [turner]))
            for other in rising[at + 1:]:
                self.yes(EIGHT_ROWS, ([other], [turner]))
                self.no(EIGHT_ROWS, ([turner], [other]))

    def test_six_turners_and_seven(self):
        for many in range(6):
            self.yes(FIRST, ([1, 2] * 3, [3] * many))
            self.no(FIRST, ([1, 2] * 3 + [1], [3] * many))
        self.no(FIRST, ([1] * 7, [1] * 6))
        self.no(FIRST, ([1] * 8, [1] * 7))
        self.no(FIRST, ([1] * 60, []))

    def test_lists_and_tuples(self):
        self.no(FIRST, [[1, 1], []])
        self.no(FIRST, ((1, 1), []))
        self.no(FIRST, ([1, 1], ()))
        self.no(FIRST, ((1, 1), ()))

    def test_other_than_two(self):
        self.no(FIRST, ())
        self.no(FIRST, ([1, 1],))
        self.no(FIRST, ([1, 1], [], []))
        self.no(FIRST, ([1, 1], [1], None))

    def test_turners_that_are_none(self):
        for turner in (0, 5, -5, True, False, None, "1", [1], (1,), 10 ** 59):
            self.no(FIRST, ([1, turner], []))
            self.no(FIRST, ([turner, 1], []))
            self.no(FIRST, ([turner], []))
            self.no(FIRST, ([1, 1], [turner]))
            self.no(FIRST, ([-4], [turner]))
        self.yes(FIRST, ([1, 4], []))
        self.no((2, FIRST[1][:3]), ([1, 4], []))

    def test_no_rows(self):
        self.no(NO_ROWS, ([], []))
        self.no(NO_ROWS, ([1], []))

    def test_any_thing(self):
        for table in TABLES:
            for thing in ODD_THINGS:
                self.no(table, thing)
                self.no(table, (thing, thing))
                self.no(table, (thing, []))
                if thing != []:
                    self.no(table, ([1, 1], thing))

    def test_the_thing_stays(self):
        thing = ([1, 1], [2])
        is_rule(FIRST, thing)
        self.assertEqual(thing, ([1, 1], [2]))


class CutTests(unittest.TestCase):

    def test_no_rules_or_none_that_stands(self):
        for rules in ([], (), [([1, 2], [])], [([3, 3, 3], [1])]):
            for word in ([], [1], [3, 3], [2, 1, -1, -2] * 15):
                told = cut(rules, word)
                self.assertEqual(told, word)
                self.assertIsNot(told, word)

    def test_the_first_rule_at_a_place(self):
        self.assertEqual(cut([([1, 2], [3]), ([1, 2], [4])], [1, 2]), [3])
        self.assertEqual(cut([([1, 2, 3], [4]), ([1, 2], [])], [1, 2, 3]), [4])
        self.assertEqual(cut([([1, 2], []), ([1, 2, 3], [4])], [1, 2, 3]), [3])
        self.assertEqual(cut([([2], [1]), ([2, 2], [])], [2, 2]), [1, 1])

    def test_the_first_place_ahead_of_the_first_rule(self):
        rules = [([2, 3], [4]), ([1, 2], [])]
        self.assertEqual(cut(rules, [1, 2, 3]), [3])
        self.assertEqual(cut(rules, [2, 3, 1, 2, 3]), [4, 3])
        self.assertEqual(cut([([3], [1]), ([2, 2, 2], [])], [2, 2, 2, 3]), [1])
        self.assertEqual(cut([([2, 2], []), ([1, 2, 2, 2], [3])], [1, 2, 2, 2]), [3])

    def test_the_place_is_where_a_left_begins(self):
        # The second rule's left ends ahead of the first one's, but begins behind it.
        self.assertEqual(cut([([1, 2, 3, 4], [1]), ([2, 3], [])], [1, 2, 3, 4]), [1])
        self.assertEqual(cut([([2, 3], []), ([1, 2, 3, 4], [1])], [1, 2, 3, 4]), [1])

    def test_a_left_across_the_ends_of_what_was_put_in(self):
        self.assertEqual(cut([([2, 2], [3]), ([1, 3], [])], [1, 2, 2]), [])
        self.assertEqual(cut([([2, 2], [3]), ([3, 4], [])], [1, 2, 2, 4]), [1])
        self.assertEqual(cut([([2, 2], []), ([1, 4], [3])], [1, 2, 2, 4]), [3])
        self.assertEqual(cut([([2, 2], [3]), ([1, 1, 3, 1, 1], [4])], [1, 1, 2, 2, 1, 1]), [4])
        self.assertEqual(cut([([2, 2], []), ([1] * 6, [])], [1] * 5 + [2, 2] + [1] * 2), [1])

    def test_far_back_and_over_again(self):
        pairs = [([k, -k], []) for k in range(1, 9)] + [([-k, k], []) for k in range(1, 9)]
        word = list(range(1, 9)) * 7
        self.assertEqual(cut(pairs, word + contrary(word)), [])
        self.assertEqual(cut(pairs, [5] + contrary(word) + word + [5]), [5, 5])

    def test_one_turner_in_anothers_stead(self):
        self.assertEqual(cut([([-1], [1]), ([1, 1], [])], [-1, 1, -1]), [1])
        self.assertEqual(cut([([3], [-2]), ([-2], [2]), ([2], [1])], [3] * 60), [1] * 60)

    def test_the_order_of_cutting_tells(self):
        # These rules come to unlike words, whichever is used first.
        rules = [([1, 2], [3]), ([2, 1], [4])]
        self.assertEqual(cut(rules, [1, 2, 1]), [3, 1])
        self.assertEqual(cut(rules, [2, 1, 2]), [4, 2])
        self.assertEqual(cut(rules[::-1], [1, 2, 1, 2, 1]), [3, 3, 1])

    def test_as_beginning_anew_each_time(self):
        chance = random.Random(13)
        for _ in range(400):
            rules = []
            while len(rules) < chance.choice((1, 2, 4, 8)):
                left = [chance.choice((1, -1, 2, -2)) for _ in range(chance.choice((1, 2, 2, 3, 3, 4, 6)))]
                right = [chance.choice((1, -1, 2, -2)) for _ in range(chance.randint(0, len(left)))]
                if is_rule(FIRST, (left, right)):
                    rules.append((left, right))
            word = [chance.choice((1, -1, 2, -2)) for _ in range(chance.choice((3, 8, 20, 60)))]
            self.assertEqual(cut(rules, word), cut_word(rules, word), (rules, word))
            self.assertEqual(cut(tuple(rules), word), cut_word(rules, word))

    def test_cut_words_do_what_they_did(self):
        chance = random.Random(14)
        for table, paper in PAPERS:
            for _ in range(5):
                word = [chance.choice(turners(table)) for _ in range(12 if turners(table) else 0)]
                other = contrary(cut(paper[0], word))
                self.assertEqual(settled(table, paper, word + other)[0], "rests")

    def test_nothing_is_left_to_cut(self):
        for word in ([1, 2, 3, 4] * 15, [-1, -2, -3] * 20, [2, 3] * 30):
            told = cut(FIRST_PAPER[0], word)
            self.assertEqual(cut(FIRST_PAPER[0], told), told)
            self.assertEqual(told, cut_word(FIRST_PAPER[0], word))


class OwnListTests(unittest.TestCase):

    def test_what_was_handed_in_stays(self):
        rules = [([1, 1], [2]), ([2, 2], [])]
        word = [1, 1, 2, 3]
        kept = copy.deepcopy((rules, word))
        cut(rules, word)
        self.assertEqual((rules, word), kept)

    def test_what_is_told_is_new(self):
        rules = [([1, 1], [2])]
        told = cut(rules, [1, 1])
        self.assertEqual(told, [2])
        told.append(3)
        self.assertEqual(rules, [([1, 1], [2])])
        self.assertEqual(cut(rules, [1, 1]), [2])
        told = cut(rules, [1, 1])
        rules[0][1].append(4)
        self.assertEqual(told, [2])


if __name__ == "__main__":
    unittest.main()
