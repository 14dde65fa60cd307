"""Points 21 and 22: ladders, and words that lead one way to another by them; points 2 and 3 on these."""

import copy
import random
import unittest

from boughturn.acting import led
from boughturn.errors import NoLadder
from boughturn.ladders import climb, look_ladder
from boughturn.words import is_word, tidied
from tests.oracle import all_ways, come_to, does_nothing, leads_by_rows, makes_letters, word_below
from tests.sample_ladders import (
    COUNT_FOUR, FIRST_LADDER, LADDERS, LONG, LONG_LADDER, SHORT, STILL_100, STILL_101, still_ladder,
)
from tests.samples import COUNT_TWO, FIRST, NO_ROWS, ODD_THINGS, TABLES, lists_within

WORDS, LEADS = FIRST_LADDER[1:]


def fault(table, thing):
    """The refusal's where, or None."""
    try:
        told = look_ladder(table, thing)
    except NoLadder as refused:
        return refused.where
    if told is not None:
        raise AssertionError(told)
    return None


def fault_by_force(table, ladder):
    """The fault of a ladder of which the kinds are right."""
    letter, words, leads = ladder
    for turner, word in enumerate(words, start=1):
        handed = word_below(table, word, letter) + [-turner]
        if makes_letters(table, word)[letter] != letter or not does_nothing(table, handed):
            return "words"
        if len(come_to(table, handed)) > 100:
            return "words"
    if [makes_letters(table, word)[letter] for word in leads] != list(range(table[0])):
        return "leads"
    return None


def put(row, at, thing):
    return [*row[:at], thing, *row[at + 1:]]


class LetByTests(unittest.TestCase):

    def test_ladders(self):
        for table, ladder in LADDERS:
            self.assertIsNone(look_ladder(table, ladder), ladder)

    def test_lists_and_tuples(self):
        for table, (letter, words, leads) in LADDERS:
            for words_kind in (list, tuple):
                for leads_kind in (list, tuple):
                    self.assertIsNone(look_ladder(table, (letter, words_kind(words), leads_kind(leads))))

    def test_tables_of_two_three_and_four_letters(self):
        self.assertEqual({table[0] for table, ladder in LADDERS}, {2, 3, 4})

    def test_words_of_twelve_turners(self):
        letter, words, leads = LONG_LADDER
        self.assertEqual({len(word) for word in (*words, *leads)}, {11, 12})
        self.assertIsNone(fault(FIRST, (1, put(WORDS, 0, [1, 2, 1] + [2, 3, 4] * 3), LEADS)))
        self.assertIsNone(fault(FIRST, (1, WORDS, put(LEADS, 1, [2] * 12))))
        self.assertIsNone(fault(FIRST, (1, WORDS, put(LEADS, 0, [1] * 3 + [2, 3, 4] * 3))))

    def test_words_that_are_alike_below_the_letter_only(self):
        # Below 0 the words do something of their own.
        self.assertIsNone(fault(FIRST, (1, [[1, 3, 1], [2, 3], [3, 4], [2, 4]], LEADS)))

    def test_just_100_words_come_to(self):
        self.assertEqual(len(come_to(STILL_100, word_below(STILL_100, [4, 7], 0) + [-3])), 100)
        self.assertIsNone(fault(STILL_100, still_ladder([4, 7])))

    def test_more_than_100_words_come_to(self):
        word = [8, -7, -4, -7, 7, -7]
        self.assertEqual(len(come_to(STILL_101, word_below(STILL_101, word, 0) + [-3])), 101)
        self.assertIsNone(fault(STILL_101, still_ladder([])))
        self.assertEqual(fault(STILL_101, still_ladder(word)), "words")

    def test_ladders_by_chance(self):
        chance = random.Random(21)
        told = []
        for _ in range(400):
            turners = [chance.choice((1, 2, 3, 4, -1, -2, -3, -4)) for _ in range(12)]
            words = [list(chance.choice(([4], [2], [3], [2, 4], turners[:2]))) for _ in range(4)]
            words = [[1, chance.choice((2, 2, 3, 4)), 1], *words[1:]]
            if chance.random() < 0.6:
                lists = (([4], [2, 3]), ([2], [4, 3]), ([3], turners[:1]))
                words[1:] = [chance.choice(each) for each in lists]
            ladder = (1, words, [turners[3:5], turners[6:8]])
            if chance.random() < 0.6:
                ladder = (1, words, [[chance.choice((1, 2))], turners[8:9]])
            told.append(fault(FIRST, ladder))
            self.assertEqual(told[-1], fault_by_force(FIRST, ladder), ladder)
        self.assertEqual(set(told), {None, "words", "leads"})


class RefusedTests(unittest.TestCase):

    def refused(self, where, thing, table=FIRST):
        self.assertEqual(fault(table, thing), where, thing)

    def test_the_refusal_is_a_value_error_with_where(self):
        with self.assertRaises(ValueError) as caught:
            look_ladder(FIRST, None)
        self.assertIs(type(caught.exception), NoLadder)
        self.assertEqual(vars(caught.exception), {"where": "ladder"})

    def test_any_thing(self):
        for table in TABLES:
            for thing in ODD_THINGS:
                self.refused("ladder", thing, table)
                self.refused("ladder", (thing,) * 3, table)

    def test_a_list_in_the_stead_of_the_tuple(self):
        self.refused("ladder", list(FIRST_LADDER))

    def test_two_or_four_things(self):
        self.refused("ladder", FIRST_LADDER[:2])
        self.refused("ladder", (*FIRST_LADDER, []))
        self.refused("ladder", ())

    def test_a_letter_that_is_none(self):
        for thing in (-1, 2, 10 ** 59, True, False, None, "1", [1], (1,)):
            self.refused("ladder", (thing, WORDS, LEADS))
        self.refused("ladder", (3, [[1, 1, 1]], [[], [1], [-1]]), (3, (((1, 2, 0), (0, 0, 1)),)))
        # Truths are the numbers 0 and 1 to Python.
        self.refused("ladder", (False, [[1, 1]], [[], [1]]), COUNT_TWO)

    def test_one_word_too_few_or_too_many(self):
        for kind in (list, tuple):
            self.refused("ladder", (1, kind(WORDS[:3]), LEADS))
            self.refused("ladder", (1, kind([*WORDS, []]), LEADS))
            self.refused("ladder", (1, WORDS, kind(LEADS[:1])))
            self.refused("ladder", (1, WORDS, kind([*LEADS, []])))

    def test_any_thing_in_a_part_of_it(self):
        for thing in ODD_THINGS:
            many = len(thing) if isinstance(thing, (list, tuple)) else None
            self.refused("words" if many == 4 else "ladder", (1, thing, LEADS))
            self.refused("leads" if many == 2 else "ladder", (1, WORDS, thing))

    def test_a_thing_that_is_no_word(self):
        for thing in (None, True, 1, "a", (), (4,), [0], [5], [-5], [True], [None], [[4]], ["d"], [10 ** 59]):
            for at in range(4):
                self.refused("words", (1, put(WORDS, at, thing), LEADS))
                self.refused("words", (1, tuple(put(WORDS, at, thing)), LEADS))
            for at in range(2):
                self.refused("leads", (1, WORDS, put(LEADS, at, thing)))
                self.refused("leads", (1, WORDS, tuple(put(LEADS, at, thing))))

    def test_any_things_among_words_and_leads(self):
        for thing in ODD_THINGS:
            if thing != []:
                self.refused("words", (1, put(WORDS, 2, thing), LEADS))
                self.refused("words", (1, [thing] * 4, [thing] * 2))
                self.refused("leads", (1, WORDS, put(LEADS, 1, thing)))

    def test_words_of_thirteen_turners(self):
        # These do what they must, and are only too long.
        self.refused("words", (1, put(WORDS, 0, [1, 2, 1] + [3] * 10), LEADS))
        self.refused("words", (1, tuple(put(WORDS, 1, [4] * 13)), LEADS))
        self.refused("words", (1, put(WORDS, 3, [3] * 13), LEADS))
        self.refused("leads", (1, WORDS, put(LEADS, 0, [1] * 13)))
        self.refused("leads", (1, WORDS, put(LEADS, 1, [2] * 13)))
        for letters in (0, 1):
            self.assertIsNone(fault(FIRST, (1, WORDS, put(LEADS, letters, [1 + letters] * (11 + letters)))))

    def test_a_word_that_makes_another_letter(self):
        # Below 1 it is a, as it must be, but it makes 0 of 1.
        self.assertEqual(word_below(FIRST, [1, 2], 1), [1])
        self.refused("words", (1, put(WORDS, 0, [1, 2]), LEADS))
        self.refused("words", (1, put(WORDS, 1, [4, 1]), LEADS))

    def test_a_word_that_is_below_the_letter_not_alike(self):
        for at in range(4):
            self.refused("words", (1, put(WORDS, at, []), LEADS))
            self.refused("words", (1, put(WORDS, at, WORDS[at - 1]), LEADS))
        self.refused("words", (0, [[-1, -1]], [[], [1]]), COUNT_TWO)
        self.refused("words", (0, [[1] * 4], [[], [1]]), COUNT_TWO)

    def test_a_lead_that_makes_another_letter(self):
        self.refused("leads", (1, WORDS, [[], []]))
        self.refused("leads", (1, WORDS, [[1], [1]]))
        self.refused("leads", (1, WORDS, [[], [1]]))
        for at in range(4):
            self.refused("leads", (0, [[1] * 4], put([[], [1], [1, 1], [-1]], at, [1] * (at + 1))), COUNT_FOUR)

    def test_words_ahead_of_leads(self):
        for bad in (None, [0], [1] * 13, [1, 2]):
            for at in range(4):
                for other in (None, [5], [1] * 13, [], [2, 1, 2, 1], ()):
                    self.refused("words", (1, put(WORDS, at, bad), put(LEADS, 0, other)))
        self.refused("words", (1, put(WORDS, 3, []), [[], []]))

    def test_tables_without_rows(self):
        # Of their one word, that without turners, no ladder can be made: it makes no other letter.
        for letters in (2, 3, 4):
            for letter in range(letters):
                self.refused("leads", (letter, [], [[]] * letters), (letters, ()))
                self.refused("leads", (letter, (), ([],) * letters), (letters, ()))
        self.refused("ladder", (0, [[]], [[]] * 3), NO_ROWS)
        self.refused("ladder", (0, [], [[]] * 2), NO_ROWS)
        self.refused("ladder", (3, [], [[]] * 3), NO_ROWS)

    def test_what_was_handed_in_stays(self):
        things = [ladder for table, ladder in LADDERS if table == FIRST]
        for thing in [*things, (1, [[1], None, (2,), [0]], [[1], []]), (1, WORDS, [[2, 2, -1, 1], [1]])]:
            kept = copy.deepcopy(thing)
            fault(FIRST, thing)
            self.assertEqual(thing, kept)


class ClimbTests(unittest.TestCase):

    def check(self, table, ladder, one, other):
        word = climb(table, ladder, one, other)
        self.assertIs(is_word(table, word), True)
        self.assertEqual(led(table, word, one), other, (table, one, other))
        self.assertEqual(leads_by_rows(table, word, one), other)

    def test_no_letters(self):
        for table, ladder in LADDERS:
            self.assertIs(is_word(table, climb(table, ladder, [], [])), True)

    def test_all_pairs_of_a_small_level(self):
        for table, ladder in LADDERS:
            for many in (1, 2) if table[0] > 2 else (1, 2, 3):
                for one in all_ways(table, many):
                    for other in all_ways(table, many):
                        self.check(table, ladder, one, other)

    def some_pairs(self, table, many):
        chance = random.Random(many)
        last = table[0] - 1
        yield [0] * many, [last] * many
        yield [last] * many, [0] * many
        for _ in range(6):
            yield [chance.randrange(table[0]) for _ in range(many)], [chance.randrange(table[0]) for _ in range(many)]

    def test_six_letters(self):
        for table, ladder in SHORT:
            for many in (3, 4, 5, 6):
                for one, other in self.some_pairs(table, many):
                    self.check(table, ladder, one, other)

    def test_four_letters_by_long_words(self):
        for table, ladder in LONG:
            for many in (3, 4):
                for one, other in self.some_pairs(table, many):
                    self.check(table, ladder, one, other)

    def test_all_pairs_of_six_letters(self):
        ways = all_ways(FIRST, 6)
        for one in ways[::7]:
            for other in ways:
                self.assertEqual(led(FIRST, climb(FIRST, FIRST_LADDER, one, other), one), other)

    def test_the_same_way_twice(self):
        for table, ladder in LADDERS:
            for one, other in self.some_pairs(table, 4):
                self.check(table, ladder, one, list(one))

    def test_letters_other_than_0(self):
        self.assertEqual({ladder[0] for table, ladder in LADDERS}, {0, 1, 2})

    def test_words_and_leads_as_lists_and_as_tuples(self):
        for table, (letter, words, leads) in LADDERS:
            for kind in (list, tuple):
                for one, other in self.some_pairs(table, 3):
                    self.check(table, (letter, kind(words), kind(leads)), one, other)

    def test_ladders_with_words_that_come_to_many(self):
        for one in all_ways(STILL_100, 4):
            self.check(STILL_100, still_ladder([4, 7]), one, one[::-1])

    def test_by_turns_back_again(self):
        for table, ladder in LADDERS:
            for one, other in self.some_pairs(table, 3):
                there = climb(table, ladder, one, other)
                back = climb(table, ladder, other, one)
                self.assertEqual(led(table, tidied(there + back), one), one)

    def test_a_new_list_and_what_was_handed_in_stays(self):
        for table, ladder in LADDERS:
            for many in (0, 1, 2, 3):
                one, other = [0] * many, [1] * many
                handed = (ladder, one, other)
                kept = copy.deepcopy(handed)
                told = climb(table, ladder, one, other)
                self.assertFalse({id(told)} & {id(each) for each in lists_within(handed)})
                told.extend([1, 1, 1])
                self.assertEqual(handed, kept)
                self.check(table, ladder, one, other)

    def test_what_is_done_later_to_the_ladder(self):
        words, leads = copy.deepcopy((WORDS, LEADS))
        told = climb(FIRST, (1, words, leads), [0, 1, 0], [1, 1, 1])
        kept = list(told)
        for each in words + leads:
            each.clear()
        self.assertEqual(told, kept)


if __name__ == "__main__":
    unittest.main()
