"""Points 10 and 11: closed lists, words that rest and words that move; points 2 and 3 as far as they speak of these."""

import copy
import unittest

from boughturn.acting import led
from boughturn.closed import alike, is_closed, rests
from boughturn.words import contrary
from tests.oracle import all_ways, all_words, come_to, commutator, word_leads
from tests.samples import (
    COUNT_THREE, COUNT_TWO, FIRST, FREE, LAMPS, MIXED_FOUR, MIXED_THREE, NO_ROWS, TABLES, TWIN_FOUR, TWIN_THREE,
    turners,
)

# All words that can be come to from the second turner of the first table, done twice.
TWICE_B = [[2, 2], [1, 1], [3, 3], [], [4, 4]]


def lamp_word(many):
    """A word of LAMPS that does nothing, of 8 turners and four more for each step between two lamps."""
    step = [2] * many
    return commutator([1, -2], contrary(step) + [1, -2] + step)


class IsClosedTests(unittest.TestCase):

    def yes(self, table, words):
        self.assertIs(is_closed(table, words), True, words)

    def no(self, table, words):
        self.assertIs(is_closed(table, words), False, words)

    def test_no_words(self):
        for table in TABLES:
            self.yes(table, [])

    def test_the_word_of_no_turners(self):
        for table in TABLES:
            self.yes(table, [[]])
            self.yes(table, [[], []])

    def test_closed_lists(self):
        self.yes(FIRST, [[1, 1], []])
        self.yes(FIRST, TWICE_B)
        self.yes(FIRST, TWICE_B[::-1])
        self.yes(FIRST, TWICE_B * 2)
        self.yes(FIRST, [[2, 3, 4], [1, 1], [3, 4, 2], [4, 2, 3], []])
        self.yes(TWIN_THREE, [[1, -2], []])
        self.yes(TWIN_FOUR, [[1, -2], [2, -1], []])

    def test_a_word_left_out(self):
        for at in range(len(TWICE_B)):
            self.no(FIRST, TWICE_B[:at] + TWICE_B[at + 1:])
        self.no(FIRST, [[1, 1]])
        self.no(TWIN_THREE, [[1, -2]])
        self.no(TWIN_FOUR, [[1, -2], []])

    def test_a_word_that_moves_a_letter(self):
        self.no(FIRST, [[1]])
        self.no(FIRST, [[1], []])
        self.no(FIRST, [*TWICE_B, [1]])
        self.no(FIRST, [[1], *TWICE_B])
        self.no(COUNT_THREE, [[1, 1], [1], []])
        self.no(MIXED_THREE, [[3], [-3], [2], []])

    def test_a_word_that_moves_further_below(self):
        self.no(FIRST, [[2], [3], [4], [1], []])
        self.no(FIRST, [[2], [3], [4], []])

    def test_once_tidied(self):
        self.yes(FIRST, [[2, -2], []])
        self.yes(FIRST, [[1, 2, -2, -1], []])
        self.yes(MIXED_THREE, [[1, 2, -2, -1], []])
        self.yes(TWIN_THREE, [[1, 1, -2, -2], [1, -2], []])
        self.no(FIRST, [[2, -2], [1, -1], [3, -3], [4, -4]])
        self.no(MIXED_FOUR, [[1, -1], [-1, 1], [2, -2], [-2, 2]])

    def test_the_list_stays(self):
        words = copy.deepcopy(TWICE_B)
        is_closed(FIRST, words)
        self.assertEqual(words, TWICE_B)


class RestsTests(unittest.TestCase):

    def check_rests(self, table, word, told):
        """It is told with a closed list of just the words that can be come to, each once."""
        self.assertEqual(sorted(map(tuple, told[1])), sorted(come_to(table, word)))
        self.assertTrue(all(isinstance(each, list) for each in told[1]))
        self.assertTrue(is_closed(table, told[1]))

    def check_moves(self, table, word, told):
        """It is told with a way that is led to another one, and no shorter one is."""
        way = told[1]
        self.assertIsInstance(way, list)
        self.assertNotEqual(led(table, word, way), way)
        for other in all_ways(table, len(way) - 1):
            self.assertEqual(led(table, word, other), other)

    def check(self, table, word, most):
        """What is told is right, whichever it is; the kind of it is told."""
        told = rests(table, word, most)
        self.assertIsInstance(told, tuple)
        self.assertEqual(len(told), 2)
        if told[0] == "open":
            self.assertEqual(told[1], most)
            self.assertGreater(len(come_to(table, word)), most)
        elif told[0] == "rests":
            self.check_rests(table, word, told)
        else:
            self.assertEqual(told[0], "moves")
            self.check_moves(table, word, told)
        return told[0]

    def test_the_word_of_no_turners(self):
        for table in TABLES:
            for most in (1, 300):
                self.assertEqual(rests(table, [], most), ("rests", [[]]))

    def test_words_that_are_tidied_away(self):
        self.assertEqual(rests(MIXED_THREE, [1, 2, -2, -1], 1), ("rests", [[]]))
        self.assertEqual(rests(FIRST, [2, -2], 1), ("rests", [[]]))

    def test_words_that_rest(self):
        for word in ([1, 1], [2, 2], [2, 3, 4], [1, 4] * 4, [1, 3] * 8, [1, 2] * 16, [-1, 2] * 16):
            self.assertEqual(self.check(FIRST, word, 300), "rests")
        self.assertEqual(self.check(TWIN_THREE, [1, 1, -2, 1, -2, -2], 300), "rests")
        self.assertEqual(self.check(TWIN_FOUR, [1, -2, 2, -1, 2, -1], 300), "rests")
        self.assertEqual(self.check(LAMPS, lamp_word(10), 300), "rests")
        self.assertEqual(self.check(LAMPS, lamp_word(12), 300), "rests")

    def test_words_that_move(self):
        self.assertEqual(rests(FIRST, [1], 300)[0], "moves")
        self.assertIn(rests(FIRST, [1], 300)[1], ([0], [1]))
        self.assertEqual(rests(FIRST, [4], 300)[0], "moves")
        self.assertIn(rests(FIRST, [4], 300)[1], ([1, 0, 0], [1, 0, 1]))
        for word in ([2], [3], [1, 2] * 8, [1, 3] * 4, [1, 4] * 2, [1, 2] * 4):
            self.assertEqual(self.check(FIRST, word, 300), "moves")
        self.assertEqual(self.check(COUNT_TWO, [1] * 32, 300), "moves")
        self.assertEqual(len(rests(COUNT_TWO, [-1] * 32, 300)[1]), 6)
        self.assertEqual(self.check(COUNT_THREE, [1] * 27, 300), "moves")
        self.assertEqual(self.check(FREE, [1, 2, -3, -1, 3, 2], 300), "moves")

    def test_a_most_just_enough_and_one_fewer(self):
        samples = (
            (FIRST, [2, 2]), (FIRST, [1, 2] * 16), (TWIN_THREE, [1, -2]), (TWIN_FOUR, [1, 1, -2, -2]),
            (LAMPS, lamp_word(3)), (LAMPS, lamp_word(7)), (FIRST, [4]), (FIRST, [1, 2] * 8), (COUNT_TWO, [1] * 32),
        )
        for table, word in samples:
            many = len(come_to(table, word))
            self.assertNotEqual(self.check(table, word, many), "open")
            self.assertNotEqual(self.check(table, word, many + 1), "open")
            self.check(table, word, many - 1)

    def test_more_than_can_be_told(self):
        self.assertEqual(len(lamp_word(13)), 60)
        self.check(LAMPS, lamp_word(13), 300)
        self.check(LAMPS, lamp_word(13), 1)
        self.check(FIRST, [4], 1)

    def test_each_most_of_short_words(self):
        for table in TABLES:
            for word in all_words(turners(table)[:3] + turners(table)[-2:], 3):
                many = len(come_to(table, word))
                self.assertNotEqual(self.check(table, word, many), "open", (table, word))
                for most in (1, 2, many - 1, 300):
                    if most > 0:
                        self.check(table, word, most)

    def test_a_word_rests_just_where_it_leads_each_way_to_itself(self):
        for table in (FIRST, TWIN_THREE, TWIN_FOUR, LAMPS):
            for word in all_words(turners(table)[-2:] + turners(table)[:1], 4):
                still = all(word_leads(table, word, way) == way for way in all_ways(table, 3))
                kind, shown = rests(table, word, 300)
                if kind == "rests":
                    self.assertTrue(still, (table, word))
                if not still:
                    self.assertEqual(kind, "moves", (table, word))
                    self.assertLessEqual(len(shown), 3, (table, word))


class AlikeTests(unittest.TestCase):

    def test_words_that_are_alike(self):
        self.assertEqual(alike(FIRST, [], [], 1), ("rests", [[]]))
        for one, other in (([2, 3], [4]), ([4], [3, 2]), ([1], [-1]), ([1, 4] * 2, [4, 1] * 2), ([2, 2], [])):
            told = alike(FIRST, one, other, 300)
            self.assertEqual(told[0], "rests")
            self.assertEqual(sorted(map(tuple, told[1])), sorted(come_to(FIRST, one + contrary(other))))
            self.assertTrue(is_closed(FIRST, told[1]))
        self.assertEqual(alike(TWIN_THREE, [1], [2], 300)[0], "rests")
        self.assertEqual(alike(TWIN_FOUR, [1, 2, 1], [2, 2, 2], 300)[0], "rests")

    def test_a_word_and_itself(self):
        for table in TABLES:
            word = turners(table)
            self.assertEqual(alike(table, word, word, 1), ("rests", [[]]))
            self.assertEqual(alike(table, word * 3, word * 3, 1), ("rests", [[]]))

    def test_words_that_are_not(self):
        samples = (
            (FIRST, [1], []), (FIRST, [], [4]), (FIRST, [2], [3]), (FIRST, [1, 2], [2, 1]), (COUNT_TWO, [1], [-1]),
            (COUNT_THREE, [1], [-1, -1]), (MIXED_FOUR, [1], [2]), (FREE, [1], [2]), (FREE, [1, 3], [3, 1]),
        )
        for table, one, other in samples:
            kind, way = alike(table, one, other, 300)
            self.assertEqual(kind, "moves")
            self.assertNotEqual(led(table, one, way), led(table, other, way))
            for shorter in all_ways(table, len(way) - 1):
                self.assertEqual(led(table, one, shorter), led(table, other, shorter))

    def test_it_is_the_one_with_the_contrary_of_the_other_behind(self):
        for one in all_words((1, -2, 3), 2):
            for other in all_words((1, 2, -3), 2):
                for most in (1, 3, 300):
                    told = alike(MIXED_THREE, one, other, most)
                    self.assertEqual(told, rests(MIXED_THREE, one + contrary(other), most))

    def test_long_words(self):
        half = lamp_word(13)
        self.assertEqual(alike(LAMPS, half, half, 300), ("rests", [[]]))
        kind, way = alike(COUNT_TWO, [1] * 60, [-1] * 60, 300)
        self.assertEqual((kind, len(way)), ("moves", 4))

    def test_the_most_is_told(self):
        many = len(come_to(FIRST, [2, 3, -4]))
        self.assertEqual(alike(FIRST, [2, 3], [4], many)[0], "rests")
        told = alike(FIRST, [2, 3], [4], many - 1)
        self.assertIn(told[0], ("open", "rests"))
        if told[0] == "open":
            self.assertEqual(told, ("open", many - 1))


class OwnListTests(unittest.TestCase):

    def test_what_was_handed_in_stays(self):
        for word in ([2, 3, 4], [2, -2], [4], []):
            other = [3, 2]
            kept = list(word)
            rests(FIRST, word, 300)
            alike(FIRST, word, other, 300)
            alike(FIRST, other, word, 300)
            self.assertEqual((word, other), (kept, [3, 2]))

    def test_told_again_after_what_was_told_was_changed(self):
        for table, word in ((FIRST, [2, 3, 4]), (FIRST, []), (FIRST, [4]), (LAMPS, lamp_word(2)), (NO_ROWS, [])):
            told = rests(table, word, 300)
            first = copy.deepcopy(told)
            for each in told[1]:
                if isinstance(each, list):
                    each.append(1)
            told[1].append([1])
            self.assertEqual(rests(table, word, 300), first)
            self.assertEqual(alike(table, word, [], 300), first)

    def test_what_is_told_is_not_what_was_handed_in(self):
        word = [2, 2]
        told = rests(FIRST, word, 300)
        told[1][0].append(3)
        self.assertEqual(word, [2, 2])
        told = rests(FIRST, word, 300)
        word.append(1)
        self.assertIn([2, 2], told[1])
        self.assertNotIn([2, 2, 1], told[1])


if __name__ == "__main__":
    unittest.main()
