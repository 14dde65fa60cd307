"""Point 14: papers, and the first fault of what is none; point 2."""

import copy
import random
import unittest

from boughturn.errors import NoPaper
from boughturn.papers import look_paper
from tests.oracle import come_to, paper_fault, rising_turners, stiff_words
from tests.sample_papers import (
    BASIL, DRAGON, FIRST_PAPER, PAPERS, SHALLOW_FOUR, SHALLOW_THREE, THREES, made_paper, paper_of, shown_by,
)
from tests.samples import COUNT_TWO, FIRST, FREE, LAMPS, MIXED_FOUR, NO_ROWS, ODD_THINGS, TABLES

RULES, CLOSED = FIRST_PAPER[:2]

# No turner does anything, whatever it hands on; so every rule can be shown.
STILL = (2, (((0, 1), (0, 0)),) * 4)
STILL_200 = (2, tuple(((0, 1), parts) for parts in (
    (6, -5), (-7, -1), (-4, 7), (3, 6), (-4, -4), (-8, 5), (-7, 7), (-3, 3),
)))
STILL_201 = (2, tuple(((0, 1), parts) for parts in (
    (-2, 4), (3, -3), (5, -3), (7, -1), (2, -7), (-3, 2), (0, -4), (-5, 7),
)))

# Its turners are alike to 0 but hand on to one another, so that a closed list of them needs all three words.
CHAIN = (2, (((0, 1), (2, 0)), ((0, 1), (0, 1))))


def fault(table, thing):
    """Where and at, as refused, or None."""
    try:
        told = look_paper(table, thing)
    except NoPaper as refused:
        return refused.where, refused.at
    if told is not None:
        raise AssertionError(told)
    return None


class LetByTests(unittest.TestCase):

    def test_papers(self):
        for table, paper in PAPERS:
            self.assertIsNone(look_paper(table, paper))

    def test_lists_and_tuples(self):
        for table, (rules, closed, length, depth) in PAPERS:
            for rules_kind in (list, tuple):
                for closed_kind in (list, tuple):
                    paper = (rules_kind(rules), closed_kind(closed), length, depth)
                    self.assertIsNone(look_paper(table, paper))

    def test_a_wider_closed_list(self):
        self.assertIsNone(look_paper(FIRST, (RULES, CLOSED[::-1], 2, 1)))
        self.assertIsNone(look_paper(FIRST, (RULES, CLOSED * 3, 2, 1)))
        self.assertIsNone(look_paper(FIRST, (RULES, CLOSED + [[2, -2], [1, 2, -2, 1]], 2, 1)))

    def test_the_refusal_is_a_value_error_with_where_and_at(self):
        with self.assertRaises(ValueError) as caught:
            look_paper(FIRST, None)
        self.assertIs(type(caught.exception), NoPaper)
        self.assertEqual(vars(caught.exception), {"where": "paper", "at": 0})


class FrameTests(unittest.TestCase):

    def refused(self, table, thing):
        self.assertEqual(fault(table, thing), ("paper", 0), thing)

    def test_any_thing(self):
        for table in TABLES:
            for thing in ODD_THINGS:
                self.refused(table, thing)
                self.refused(table, (thing,) * 4)

    def test_any_thing_in_a_part_of_it(self):
        for thing in ODD_THINGS:
            if not isinstance(thing, (list, tuple)):
                self.refused(FIRST, (thing, CLOSED, 2, 1))
                self.refused(FIRST, (RULES, thing, 2, 1))
            if thing is True or thing != 2:
                self.refused(FIRST, (RULES, CLOSED, thing, 1))
            if thing is True or thing not in (1, 2):
                self.refused(FIRST, (RULES, CLOSED, 2, thing))

    def test_another_number_of_parts(self):
        self.refused(FIRST, FIRST_PAPER[:3])
        self.refused(FIRST, (*FIRST_PAPER, 1))
        self.refused(FIRST, list(FIRST_PAPER))

    def test_lengths(self):
        for length in (2, 3, 4):
            self.assertIsNone(fault(FIRST, (RULES, CLOSED, length, 1)))
        for length in (1, 5, 0, -2, 10 ** 59, True, None, "2", [2]):
            self.refused(FIRST, (RULES, CLOSED, length, 1))

    def test_depths(self):
        for depth in (1, 2, 3):
            self.assertIsNone(fault(FIRST, (RULES, CLOSED, 2, depth)))
        for depth in (0, 4, -1, 10 ** 59, True, None, "1", [1]):
            self.refused(FIRST, (RULES, CLOSED, 2, depth))

    def test_letters_to_the_depth(self):
        three = paper_of(THREES)
        four = ([], [], 2)
        self.assertIsNone(fault(THREES, (*three[:3], 2)))
        self.refused(THREES, (*three[:3], 3))
        self.assertIsNone(fault(SHALLOW_FOUR, (*four, 2)))
        self.refused(SHALLOW_FOUR, (*four, 3))
        self.assertIsNone(fault(NO_ROWS, ([], [], 4, 2)))
        self.refused(NO_ROWS, ([], [], 4, 3))

    def test_sixty_rules_and_one_more(self):
        sixty = (RULES * 5)[:60]
        self.assertIsNone(fault(FIRST, (sixty, CLOSED, 2, 1)))
        self.assertIsNone(fault(FIRST, (tuple(sixty), CLOSED, 2, 1)))
        self.refused(FIRST, (sixty + RULES[:1], CLOSED, 2, 1))
        self.refused(FIRST, (tuple(sixty + RULES[:1]), CLOSED, 2, 1))

    def test_three_hundred_words_and_one_more(self):
        many = (CLOSED * 20)[:300]
        self.assertEqual(len(many), 300)
        self.assertIsNone(fault(FIRST, (RULES, many, 2, 1)))
        self.assertIsNone(fault(FIRST, (RULES, tuple(many), 2, 1)))
        self.refused(FIRST, (RULES, many + [[]], 2, 1))
        self.refused(FIRST, (RULES, tuple(many + [[]]), 2, 1))

    def test_what_is_in_them_is_not_looked_at_here(self):
        self.assertEqual(fault(FIRST, ([None] * 60, [None] * 300, 2, 1)), ("rule", 0))
        self.refused(FIRST, ([None] * 61, [None] * 300, 2, 1))
        self.refused(FIRST, ([None] * 60, [None] * 301, 2, 1))
        self.refused(FIRST, ([None], [None], 5, 1))


class KindTests(unittest.TestCase):

    def test_things_that_are_no_rule(self):
        things = (
            None, 0, True, "ab", [], (), [[1, 1], []], ([1, 1], ()), ((1, 1), []), ([1, 1], [], []), ([1], [1]),
            ([1], [-1]), ([1, 1], [2, 2]), ([1] * 7, []), ([0, 1], []), ([5, 1], []), ([True, 1], []), ([], []),
        )
        for thing in things:
            for at in (0, 1, 7, 14):
                rules = list(RULES)
                rules.insert(at, thing)
                self.assertEqual(fault(FIRST, (rules, CLOSED, 2, 1)), ("rule", at), thing)
                self.assertEqual(fault(FIRST, (tuple(rules), CLOSED, 2, 1)), ("rule", at), thing)

    def test_things_in_closed_that_are_no_word(self):
        for thing in (None, 0, 1, True, "ab", (), (1, 1), [0], [5], [-5], [True], [[1]], [None], [1, "1"]):
            for at in (0, 1, 9, 15):
                closed = list(CLOSED)
                closed.insert(at, thing)
                self.assertEqual(fault(FIRST, (RULES, closed, 2, 1)), ("closed", at), thing)
                self.assertEqual(fault(FIRST, (RULES, tuple(closed), 2, 1)), ("closed", at), thing)

    def test_the_first_of_several(self):
        self.assertEqual(fault(FIRST, (RULES + [None, 0, ([], [])], CLOSED, 2, 1)), ("rule", 14))
        self.assertEqual(fault(FIRST, (RULES, CLOSED + [None, (), [0]], 2, 1)), ("closed", 15))

    def test_rules_ahead_of_closed(self):
        self.assertEqual(fault(FIRST, (RULES + [None], [None] + CLOSED, 2, 1)), ("rule", 14))

    def test_words_of_closed_may_be_long(self):
        long = [1, 2, 3, 4, 2, -3, -2, -1] * 8
        self.assertIsNone(fault(FIRST, (RULES, CLOSED + [[1, 2, -2, -1] * 30], 2, 1)))
        self.assertEqual(fault(FIRST, (RULES, CLOSED + [long], 2, 1)), ("closed", 15))


class ClosedTests(unittest.TestCase):

    def test_a_word_that_makes_another_letter(self):
        for at in (0, 5, 15):
            for word in ([1], [-1], [2, 1], [1, 4, 3]):
                closed = CLOSED[:at] + [word] + CLOSED[at:]
                self.assertEqual(fault(FIRST, (RULES, closed, 2, 1)), ("closed", at))

    def test_a_word_that_is_below_a_letter_none_of_closed(self):
        for at in (0, 5, 15):
            for word in ([4], [2, 3], [3, 4, 2, 2], [-4, -4, 4]):
                closed = CLOSED[:at] + [word] + CLOSED[at:]
                self.assertEqual(fault(FIRST, (RULES, closed, 2, 1)), ("closed", at))

    def test_a_word_left_out(self):
        for at, word in enumerate(CLOSED):
            closed = CLOSED[:at] + CLOSED[at + 1:]
            self.assertEqual(fault(FIRST, (RULES, closed, 2, 1)), paper_fault(FIRST, (RULES, closed, 2, 1)), word)
            self.assertIsNotNone(fault(FIRST, (RULES, closed, 2, 1)))

    def test_turner_by_turner_as_it_stands(self):
        # The word is, below each letter and tidied, without turners: one of closed that would be so tidied is not it.
        self.assertEqual(fault(FIRST, ([], [[1, 1]], 4, 3)), ("closed", 0))
        self.assertEqual(fault(FIRST, ([], [[1, 1], [2, -2]], 4, 3)), ("closed", 0))
        self.assertEqual(fault(FIRST, ([], [[2, -2]], 4, 3)), ("closed", 0))
        self.assertEqual(fault(CHAIN, ([], [[1], [2], []], 2, 2))[0], "stiff")
        self.assertEqual(fault(CHAIN, ([], [[1, 2, -2], [2], []], 2, 2)), ("closed", 1))

    def test_below_the_last_letter_too(self):
        self.assertEqual(fault(CHAIN, ([], [[2], []], 2, 2)), ("closed", 0))
        self.assertEqual(fault(CHAIN, ([], [[], [1]], 2, 2)), ("closed", 1))

    def test_ahead_of_rules_that_are_not_shown(self):
        self.assertEqual(fault(FIRST, (RULES + [([1], [])], CLOSED + [[1]], 2, 1)), ("closed", 15))
        self.assertEqual(fault(FIRST, ([([4, 3, 2, 1], [])] + RULES, CLOSED + [[4]], 2, 1)), ("closed", 15))


class ShownTests(unittest.TestCase):

    def test_rules_that_are_not_shown(self):
        for at in (0, 3, 14):
            for rule in (([1], []), ([2, 3], []), ([1, 2], [2]), ([1, 4] * 2, []), ([3], [2])):
                rules = RULES[:at] + [rule] + RULES[at:]
                self.assertEqual(fault(FIRST, (rules, CLOSED, 2, 1)), ("rule", at))

    def test_rules_that_hold_but_are_not_shown(self):
        rule = ([2, 3, 2, 3], [])
        self.assertEqual(fault(FIRST, (RULES + [rule], CLOSED, 2, 1)), ("rule", 14))
        closed = CLOSED + shown_by(FIRST, [rule])
        self.assertIsNone(fault(FIRST, (RULES + [rule], closed, 2, 1)))

    def test_the_left_with_the_contrary_of_the_right_behind_it_tidied(self):
        self.assertEqual(fault(CHAIN, ([([1, 2], [2])], [[1], [2], []], 2, 2))[0], "stiff")
        self.assertEqual(fault(CHAIN, ([([1, 2], [1])], [[1], [2], []], 2, 2)), ("rule", 0))  # 1, 2, -1 is not listed
        self.assertIsNone(fault(COUNT_TWO, ([([1, -1], []), ([-1, 1], [])], [[]], 2, 1)))
        self.assertEqual(fault(COUNT_TWO, ([([1, -1], []), ([-1, 1], [])], [], 2, 1)), ("rule", 0))
        # Shown tidied only: as it stands it's none of closed.
        self.assertEqual(fault(COUNT_TWO, ([([1, -1], [])], [[1, -1]], 2, 1)), ("closed", 0))

    def test_the_first_of_several(self):
        self.assertEqual(fault(FIRST, (RULES + [([1], []), ([2], [])], CLOSED, 2, 1)), ("rule", 14))

    def test_ahead_of_stiff_words(self):
        self.assertEqual(fault(FIRST, ([([1, 2], [])], CLOSED, 2, 1)), ("rule", 0))
        self.assertEqual(fault(LAMPS, ([([1], [])], [[]], 2, 1)), ("rule", 0))


class StiffTests(unittest.TestCase):

    def refused(self, table, paper):
        """Refused for a stiff word, with the number that going through all words tells."""
        where, at = fault(table, paper)
        self.assertEqual((where, at), paper_fault(table, paper))
        self.assertEqual(where, "stiff")
        return at

    def test_words_that_are_not_shortened(self):
        self.assertEqual(self.refused(COUNT_TWO, ([], [], 4, 3)), 20)
        self.assertEqual(self.refused(LAMPS, ([], [], 2, 1)), 5)
        self.assertEqual(self.refused(FREE, ([], [], 3, 2)), 43)
        for length, depth in ((2, 1), (2, 2), (2, 3), (3, 1), (4, 1)):
            self.assertGreater(self.refused(BASIL, made_paper(BASIL, 2, length, depth)), 4)

    def test_the_depth_tells(self):
        rules, closed = paper_of(DRAGON)[:2]
        self.assertIsNone(fault(DRAGON, (rules, closed, 2, 3)))
        self.assertEqual(self.refused(DRAGON, (rules, closed, 2, 1)), 9)
        self.assertEqual(self.refused(DRAGON, (rules, closed, 2, 2)), 14)
        self.assertEqual(self.refused(SHALLOW_THREE, ([], [], 2, 1)), 45)

    def test_cut_below(self):
        # Below a letter the words of length turners are as long, until they are cut.
        still = (2, (((0, 1), (2, 2)), ((0, 1), (0, 0))))
        rules = [([2], []), ([-2], [])]
        self.assertEqual(self.refused(still, ([], [], 2, 1)), 5)
        self.assertIsNone(fault(still, (rules, [[2], [-2], []], 2, 1)))

    def test_words_shorter_than_the_length_need_not_be_shortened(self):
        self.assertIsNone(fault(FIRST, (RULES, CLOSED, 3, 1)))
        self.assertIsNone(fault(COUNT_TWO, (*paper_of(COUNT_TWO)[:2], 4, 1)))

    def test_five_hundred_stiff_words_and_one_more(self):
        pairs = [([1, other], []) for other in (2, -2, 3, -3)]
        triples = [([2, 2, other], []) for other in rising_turners(STILL)]
        triples += [([-2, -2, other], []) for other in rising_turners(STILL)]
        for more, many in ((1, 500), (0, 501)):
            rules = pairs + triples + [([3, 3, 3], [])][:more]
            paper = (rules, shown_by(STILL, rules), 3, 1)
            self.assertEqual(len(stiff_words(STILL, rules, 3)), many)
            self.assertEqual(fault(STILL, paper), ("stiff", 0) if many > 500 else None)

    def test_many_more_stiff_words(self):
        for table in (MIXED_FOUR, FREE, STILL_200):
            for length in (2, 3, 4):
                many = sum((2 * len(table[1])) ** k for k in range(length + 1))
                told = fault(table, ([], [], length, 1))
                self.assertEqual(told[0], "stiff")
                self.assertEqual(told[1] == 0, many > 500, (table, length))

    def test_two_hundred_words_come_to_and_one_more(self):
        for table, many in ((STILL_200, 200), (STILL_201, 201)):
            rules = [([turner], []) for turner in rising_turners(table) if turner not in (1, 2, 3)]
            closed = [[]] + [[turner] for turner in rising_turners(table)]
            paper = (rules, closed, 4, 1)
            words = [word for word in stiff_words(table, rules, 3)]
            self.assertEqual(max(len(come_to(table, word)) for word in words), many)
            if many == 200:
                self.assertIsNone(fault(table, paper))
            else:
                at = self.refused(table, paper)
                self.assertEqual(words[at], [1, 2, 3])

    def test_the_words_come_to_are_tidied(self):
        # Without rules that tidy, stiff words with pairs in them come to no more words than the tidied ones.
        rules = [([turner], []) for turner in rising_turners(STILL_200) if turner not in (1, 2, -1)]
        closed = [[]] + [[turner] for turner in rising_turners(STILL_200)]
        paper = (rules, closed, 4, 1)
        self.assertEqual(fault(STILL_200, paper), paper_fault(STILL_200, paper))

    def test_no_rows(self):
        for length in (2, 3, 4):
            self.assertIsNone(fault(NO_ROWS, ([], [], length, 2)))

    def test_papers_with_rules_left_out(self):
        chance = random.Random(14)
        kinds = set()
        for table, (rules, closed, length, depth) in PAPERS:
            for _ in range(6):
                fewer = [rule for rule in rules if chance.random() < 0.8]
                paper = (fewer, closed, chance.choice((length, 2)), chance.choice((depth, 1)))
                told = fault(table, paper)
                self.assertEqual(told, paper_fault(table, paper), (table, paper))
                kinds.add(told)
        self.assertGreater(len(kinds), 5)


class OrderOfFaultsTests(unittest.TestCase):

    def test_each_pair_of_faults(self):
        """Of two faults the one that is listed first is told."""
        faults = [
            ("paper", 0, lambda rules, closed: (rules, closed, 1, 1)),
            ("rule", 14, lambda rules, closed: (rules + [([1], [1])], closed, 2, 1)),
            ("closed", 15, lambda rules, closed: (rules, closed + [[0]], 2, 1)),
            ("closed", 15, lambda rules, closed: (rules, closed + [[1, 2]], 2, 1)),
            ("rule", 14, lambda rules, closed: (rules + [([1, 2], [])], closed, 2, 1)),
        ]
        for at, (where, number, spoil) in enumerate(faults):
            self.assertEqual(fault(FIRST, spoil(RULES, CLOSED)), (where, number))
            for other in faults[at + 1:]:
                rules, closed = other[2](RULES, CLOSED)[:2]
                spoiled = spoil(rules, closed)
                parts = {"paper": [spoiled], "rule": spoiled[0], "closed": spoiled[1]}[where]
                self.assertEqual(fault(FIRST, spoiled), (where, len(parts) - 1), parts)

    def test_each_ahead_of_stiff_words(self):
        lone = [([1, 1], [])]
        shown = [[1, 1], []]
        self.assertEqual(fault(FIRST, (lone, shown, 2, 1))[0], "stiff")
        self.assertEqual(fault(FIRST, (lone, shown, 2, 4)), ("paper", 0))
        self.assertEqual(fault(FIRST, (lone + [([1], [1])], shown, 2, 1)), ("rule", 1))
        self.assertEqual(fault(FIRST, (lone, shown + [[0]], 2, 1)), ("closed", 2))
        self.assertEqual(fault(FIRST, (lone, shown + [[1]], 2, 1)), ("closed", 2))
        self.assertEqual(fault(FIRST, (lone + [([1], [])], shown, 2, 1)), ("rule", 1))


class OwnListTests(unittest.TestCase):

    def test_what_was_handed_in_stays(self):
        things = [paper for table, paper in PAPERS] + [([([1], [])], [[]], 2, 1), ([None], [[1]], 2, 1)]
        for thing in things:
            kept = copy.deepcopy(thing)
            for table in (FIRST, BASIL):
                fault(table, thing)
            self.assertEqual(thing, kept)

    def test_told_again(self):
        paper = copy.deepcopy(FIRST_PAPER)
        self.assertIsNone(fault(FIRST, paper))
        paper[1].pop()
        self.assertIsNotNone(fault(FIRST, paper))
        self.assertIsNone(fault(FIRST, FIRST_PAPER))


if __name__ == "__main__":
    unittest.main()
