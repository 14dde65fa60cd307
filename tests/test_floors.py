"""Points 15 and 16: words that go down by a paper, and books that they do nothing; points 2 and 3 on these."""

import copy
import unittest

from boughturn.acting import led
from boughturn.belows import below
from boughturn.closed import alike, rests
from boughturn.floors import down, is_book, settled
from boughturn.rules import cut
from boughturn.words import contrary
from tests.oracle import all_ways, all_words, come_to, commutator, cut_word, go_down, leads_by_rows
from tests.sample_papers import (
    BASIL, DRAGON, EVERY_OTHER, FIRST_PAPER, PAPERS, SHALLOW_FOUR, SHALLOW_THREE, THREES, made_paper, paper_of,
)
from tests.samples import (
    COUNT_TWO, FIRST, NO_ROWS, ODD_THINGS, TWIN_FOUR, chance_words, lists_within, turners,
)

FIRST_LONG = made_paper(FIRST, 2, 4, 3)


def as_tuples(paper):
    return tuple(paper[0]), tuple(paper[1]), *paper[2:]


class DownTests(unittest.TestCase):

    def test_told_words(self):
        self.assertEqual(down(FIRST, FIRST_PAPER, []), [[], []])
        self.assertEqual(down(FIRST, FIRST_PAPER, [1]), [[], []])
        self.assertEqual(down(FIRST, FIRST_PAPER, [-2]), [[1], [3]])
        self.assertEqual(down(FIRST, FIRST_PAPER, [1, 2]), [[3], [1]])
        self.assertEqual(down(FIRST, FIRST_PAPER, [2, 1, 2]), [[1, 3], [3, 1]])
        self.assertEqual(down(FIRST, FIRST_PAPER, [1, 2] * 16), [[3, 1] * 8, [1, 3] * 8])
        self.assertEqual(down(COUNT_TWO, paper_of(COUNT_TWO), [1] * 60), [[1] * 30, [1] * 30])
        self.assertEqual(down(COUNT_TWO, paper_of(COUNT_TWO), [1] * 59), [[1] * 29, [1] * 30])

    def test_words_are_cut_ahead(self):
        self.assertEqual(down(FIRST, FIRST_PAPER, [2, 2, 1, -1, 4]), [[], [2]])
        self.assertEqual(down(FIRST, FIRST_PAPER, [2, 3, 1]), down(FIRST, FIRST_PAPER, [4, 1]))

    def test_the_order_of_the_ways(self):
        # Below each way the word is a power of its own of the turner that adds one.
        table = (4, (((1, 2, 3, 0), (0, 0, 0, 1)),))
        paper = made_paper(table, 2, 2, 2)
        for many in (1, 5, 16, 37, 60):
            told = down(table, paper, [1] * many)
            self.assertEqual(told, [[1] * ((many + a + 4 * b) // 16) for a in range(4) for b in range(4)])

    def test_sizes_about_the_length(self):
        for table, paper in PAPERS:
            length = paper[2]
            for seed in range(3):
                sizes = (0, 1, length - 1, length, length + 1, 2 * length, 4 * length + 1)
                for word in chance_words(seed, table, sizes):
                    self.assertEqual(down(table, paper, word), go_down(table, paper, word), (table, word))

    def test_long_words(self):
        for table, paper in PAPERS:
            for word in chance_words(15, table, (10, 23, 40, 60)):
                self.assertEqual(down(table, paper, word), go_down(table, paper, word), (table, word))

    def test_pieces_are_cut_each_by_itself(self):
        # Rules by which it tells whether pieces are cut first or all at once: the turners do nothing.
        still = (2, (((0, 1), (2, 0)), ((0, 1), (0, 3)), ((0, 1), (0, 0)), ((0, 1), (0, 2))))
        rules = [([2, 2, 2], [3]), ([2, 2], []), ([3, 3], [2]), ([4, 4], []), ([2, 3], [])]
        for length in (2, 3, 4):
            for word in ([1] * 5, [1] * 6, [1] * 7, [1, 4, 1, 1, 4, 1, 1, 1], [4, 1, 2, 1, 3, 1, 4, 4, 2, 1, 1]):
                paper = (rules, [[]], length, 1)
                self.assertEqual(down(still, paper, word), go_down(still, paper, word))
        self.assertEqual(down(still, (rules, [[]], 2, 1), [1] * 3), [[2], []])
        self.assertEqual(down(still, (rules, [[]], 3, 1), [1] * 3), [[3], []])

    def test_rules_as_tuples(self):
        for table, paper in PAPERS:
            for word in chance_words(16, table, (7, 20)):
                self.assertEqual(down(table, as_tuples(paper), word), down(table, paper, word))

    def test_alike_to_what_the_word_is_below_the_way(self):
        for table, paper in PAPERS:
            for word in chance_words(17, table, (3, 8)):
                for way, told in zip(all_ways(table, paper[3]), down(table, paper, word)):
                    self.assertEqual(alike(table, below(table, word, way), told, 300)[0], "rests")

    def test_fewer_turners_than_the_cut_word(self):
        for table, paper in PAPERS:
            for word in chance_words(18, table, (2, 3, 4, 5, 6, 8, 12, 20, 33, 60) * 2):
                many = len(cut(paper[0], word))
                for told in down(table, paper, word):
                    self.assertLess(len(told), max(many, paper[2]), (table, word))
                    if many >= paper[2]:
                        self.assertLess(len(told), many)

    def test_floor_by_floor_to_words_shorter_than_the_length(self):
        for table, paper in PAPERS:
            for word in chance_words(19, table, (20, 60)):
                ahead = [word]
                for _ in range(60):
                    ahead = [told for word in ahead if len(word) >= paper[2] for told in down(table, paper, word)]
                    ahead = [word for at, word in enumerate(ahead) if word not in ahead[:at]]
                self.assertEqual(ahead, [])


class SettledTests(unittest.TestCase):

    def check(self, table, paper, word):
        """What is told is shown; the kind of it is told."""
        told = settled(table, paper, word)
        self.assertIsInstance(told, tuple)
        kind, shown = told
        if kind == "moves":
            self.assertIsInstance(shown, list)
            self.assertNotEqual(led(table, word, shown), shown)
            self.assertNotEqual(leads_by_rows(table, word, shown), shown)
        else:
            self.assertEqual(kind, "rests")
            self.assertIs(is_book(table, paper, word, shown), True, (table, word))
            self.assertIs(is_book(table, as_tuples(paper), word, shown), True)
        return kind

    def check_rests(self, table, paper, word):
        self.assertEqual(self.check(table, paper, word), "rests", word)

    def check_moves(self, table, paper, word):
        self.assertEqual(self.check(table, paper, word), "moves", word)

    def test_the_word_of_no_turners(self):
        for table, paper in PAPERS:
            self.assertEqual(settled(table, paper, []), ("rests", [([], [[]])]))

    def test_words_that_are_cut_away(self):
        self.assertEqual(settled(FIRST, FIRST_PAPER, [1, 2, 3, 4, -1]), ("rests", [([], [[]])]))
        self.assertEqual(settled(NO_ROWS, ([], [], 2, 1), []), ("rests", [([], [[]])]))

    def test_words_that_rest(self):
        for paper in (FIRST_PAPER, FIRST_LONG, made_paper(FIRST, 2, 3, 2)):
            for word in ([1, 4] * 4, [1, 3] * 8, [1, 2] * 16, [4, 1] * 4 + [2, 2], [-1, -4] * 12):
                self.check_rests(FIRST, paper, word)
            self.check_rests(FIRST, paper, commutator([4], [1, 4, 1]))
        self.check_rests(THREES, paper_of(THREES), [1, 2] * 9)
        self.check_rests(THREES, paper_of(THREES), [2, -1] * 27)
        self.check_rests(DRAGON, paper_of(DRAGON), commutator([1] * 7, [2] * 8))
        self.check_rests(DRAGON, paper_of(DRAGON), commutator([1, 2, 1], [3, 1, 3]))
        self.check_rests(EVERY_OTHER, paper_of(EVERY_OTHER), commutator([1] * 14, [2] * 16))
        self.check_rests(BASIL, paper_of(BASIL), commutator([2], [-1, 2, 1]))
        self.check_rests(BASIL, paper_of(BASIL), commutator([2, 2, 2], [-1, 2, -1, -1, 2, 1, 1, 1]))
        self.check_rests(TWIN_FOUR, paper_of(TWIN_FOUR), [1, 2, -1, -2] * 15)
        self.check_rests(SHALLOW_FOUR, paper_of(SHALLOW_FOUR), [1] * 12)
        self.check_rests(SHALLOW_THREE, paper_of(SHALLOW_THREE), [4, 3] * 28)

    def test_words_that_move(self):
        for paper in (FIRST_PAPER, FIRST_LONG, made_paper(FIRST, 2, 3, 2)):
            for word in ([1], [2], [3], [-4], [1, 4] * 2, [1, 3] * 4, [1, 2] * 8, [4, 3, 1, 2] * 15):
                self.check_moves(FIRST, paper, word)
        for many in (1, 2, 32, 48, 60):
            self.check_moves(COUNT_TWO, paper_of(COUNT_TWO), [1] * many)
        self.check_moves(THREES, paper_of(THREES), [1, 2] * 3)
        self.check_moves(DRAGON, paper_of(DRAGON), [1] * 13 + [2] * 14)
        self.check_moves(BASIL, paper_of(BASIL), commutator([1], [2]))
        self.check_moves(SHALLOW_FOUR, paper_of(SHALLOW_FOUR), [1] * 4)

    def test_words_shorter_than_the_length(self):
        self.check_rests(SHALLOW_FOUR, ([], [], 4, 2), [2, 2, 2])
        self.check_rests(TWIN_FOUR, made_paper(TWIN_FOUR, 2, 3, 1), [1, -2])
        told = settled(SHALLOW_FOUR, ([], [[]], 4, 2), [2, 2, 2])
        self.assertEqual(sorted(told[1][0][1]), [[], [2, 2, 2]])
        self.check_moves(SHALLOW_FOUR, ([], [], 4, 2), [1, 1, 2])

    def test_short_words_as_closed_lists_tell(self):
        for table, paper in PAPERS:
            for word in all_words(turners(table)[:4] + turners(table)[-1:], 3):
                self.assertEqual(self.check(table, paper, word), rests(table, word, 300)[0], (table, word))

    def test_words_by_chance(self):
        kinds = set()
        for table, paper in PAPERS:
            for word in chance_words(20, table, (3, 5, 8, 20, 40, 60)):
                kinds.add(self.check(table, paper, word))
                self.check_rests(table, paper, word + contrary(word))
                kept = cut(paper[0], word)
                self.check_rests(table, paper, word + contrary(kept))
                if self.check(table, paper, word) == "rests":
                    deep = [0] * 8
                    self.assertEqual(led(table, word, deep), deep)
        self.assertEqual(kinds, {"rests", "moves"})

    def test_powers(self):
        for many in range(1, 40):
            told = settled(FIRST, FIRST_PAPER, [1, 2, 1, 3] * many)[0]
            self.assertEqual(told == "rests", many % 8 == 0, many)
        for many in range(1, 20):
            told = settled(SHALLOW_FOUR, paper_of(SHALLOW_FOUR), [1] * many)[0]
            self.assertEqual(told == "rests", many % 12 == 0, many)


class IsBookTests(unittest.TestCase):

    def setUp(self):
        self.word = [1, 2] * 16
        self.book = settled(FIRST, FIRST_PAPER, self.word)[1]

    def yes(self, thing, word=None):
        self.assertIs(is_book(FIRST, FIRST_PAPER, word or self.word, thing), True)

    def no(self, thing, word=None):
        self.assertIs(is_book(FIRST, FIRST_PAPER, word or self.word, thing), False)

    def test_the_book_and_in_another_order(self):
        self.yes(self.book)
        self.assertGreater(len(self.book), 4)
        self.yes(self.book[:1] + self.book[:0:-1])

    def test_a_word_left_out(self):
        for at in range(len(self.book)):
            self.no(self.book[:at] + self.book[at + 1:])

    def test_a_word_told_twice(self):
        for entry in self.book:
            self.no(self.book + [entry])
            self.no(self.book + [(list(entry[0]), list(entry[1]))])

    def test_another_first_word(self):
        for at in range(1, len(self.book)):
            self.no([self.book[at]] + self.book[:at] + self.book[at + 1:])
        self.no(self.book, [2, 1] * 16)
        self.no(self.book, [1, 2] * 8)
        self.no(self.book, [1])
        uncut = [1, 1] + self.word
        self.yes(self.book, uncut)
        self.no([(uncut, self.book[0][1])] + self.book[1:], uncut)
        self.no([(uncut, self.book[0][1])] + self.book, uncut)

    def test_words_in_another_order(self):
        for at, (word, words) in enumerate(self.book):
            if words[::-1] != words and len(word) >= 2:
                self.no(self.book[:at] + [(word, words[::-1])] + self.book[at + 1:])
        self.assertTrue(any(words[::-1] != words for word, words in self.book if len(word) >= 2))

    def test_closed_words_in_another_order(self):
        table, paper = TWIN_FOUR, ([], [], 3, 1)
        book = settled(table, paper, [1, -2])[1]
        self.assertEqual(len(book), 1)
        word, words = book[0]
        self.assertEqual(len(words), 3)
        for other in (words, words[::-1], words[1:] + words[:1], words[2:] + words[:2]):
            self.assertIs(is_book(table, paper, [1, -2], [(word, other)]), True)
        for other in (words[1:], words[:2], words + words[:1], words + [[1, -1]], words[:2] + [[1, -1]], [], [[]]):
            self.assertIs(is_book(table, paper, [1, -2], [(word, other)]), False)

    def test_closed_lists_of_more_than_can_be_come_to(self):
        table, paper = TWIN_FOUR, ([], [], 3, 1)
        self.assertIs(is_book(table, paper, [], [([], [[]])]), True)
        self.assertIs(is_book(table, paper, [], [([], [[], [1, -2], [2, -1]])]), False)
        self.assertIs(is_book(table, paper, [], [([], [[], []])]), False)

    def test_words_that_move(self):
        self.no([([1], [[1], []])], [1])
        self.no([([2], [[2], [1], [3], [4], []])], [2])
        self.no([([1], [])], [1])
        # Each of these words goes down to words of the list, but leads ways elsewhere.
        table, paper = COUNT_TWO, paper_of(COUNT_TWO)
        listed = [([1] * 4, [[1] * 2] * 2), ([1] * 2, [[1]] * 2), ([1], [[1], []])]
        self.assertIs(is_book(table, paper, [1] * 4, listed), False)
        self.assertIs(is_book(table, paper, [1] * 2, listed[1:]), False)

    def test_more_words_than_are_come_to(self):
        other = settled(FIRST, FIRST_PAPER, [1, 2] * 32)[1]
        known = [word for word, words in self.book]
        more = [entry for entry in other if entry[0] not in known]
        self.assertTrue(more)
        self.yes(self.book + more)
        self.yes(self.book[:1] + more + self.book[1:])
        self.no(self.book + [([1], [[1], []])])
        words = down(FIRST, FIRST_PAPER, [2, 1] * 16)
        self.yes(self.book + [([2, 1] * 16, words)])
        self.no(self.book + [([2, 1] * 16, words[::-1])])
        self.no(self.book + [([1, 4], down(FIRST, FIRST_PAPER, [1, 4]))])

    def test_another_word_in_words(self):
        for at, (word, words) in enumerate(self.book):
            for other in (words + [[]], words[:-1], words[:-1] + [[2, 1] * 3], [words]):
                self.no(self.book[:at] + [(word, other)] + self.book[at + 1:])

    def test_things_of_other_kinds_in_it(self):
        for at, (word, words) in enumerate(self.book):
            others = (
                (tuple(word), words), (word, tuple(words)), [word, words], (word,), (word, words, []), (word, None),
                (None, words), word, words, None, True, 0, "ab", (word, [tuple(each) for each in words]), (words, word),
                ([True if turner == 1 else turner for turner in word] or [True], words), (word, words + [True]),
                (word, [[True if turner == 1 else turner for turner in each] or [0] for each in words]),
            )
            for other in others:
                self.no(self.book[:at] + [other] + self.book[at + 1:])

    def test_any_thing(self):
        for thing in ODD_THINGS:
            self.no(thing)
            self.no([thing])
            self.no((thing, thing))
            self.no([(thing, thing)])
            self.no([([1], thing)], [1])
            self.no(self.book + [thing])
            self.assertIs(is_book(FIRST, FIRST_PAPER, [], thing), False)
        self.no(tuple(self.book))
        self.no([])
        self.assertIs(is_book(FIRST, FIRST_PAPER, [], []), False)

    def test_each_book_is_for_its_word(self):
        for table, paper in PAPERS:
            for word in chance_words(21, table, (6, 14)):
                nothing = word + contrary(word)
                book = settled(table, paper, nothing)[1]
                self.assertIs(is_book(table, paper, nothing, book), True)
                same = cut_word(paper[0], word) == cut_word(paper[0], nothing)
                self.assertIs(is_book(table, paper, word, book), same)


class OwnListTests(unittest.TestCase):

    def samples(self):
        yield FIRST, FIRST_PAPER, [1, 2] * 16
        yield FIRST, FIRST_PAPER, [1, 2, 1, 4]
        yield FIRST, FIRST_PAPER, []
        yield TWIN_FOUR, ([], [], 3, 1), [1, -2]
        yield DRAGON, paper_of(DRAGON), commutator([1] * 3, [2] * 4)

    def test_what_was_handed_in_stays(self):
        for table, paper, word in self.samples():
            kept = copy.deepcopy((paper, word))
            down(table, paper, word)
            told = settled(table, paper, word)
            first = copy.deepcopy(told)
            is_book(table, paper, word, told[1])
            self.assertEqual((paper, word), kept)
            self.assertEqual(told, first)

    def test_each_list_is_its_own(self):
        for table, paper, word in self.samples():
            for told in (down(table, paper, word), settled(table, paper, word)):
                lists = [id(each) for each in lists_within(told)]
                self.assertEqual(len(set(lists)), len(lists))
                self.assertEqual(set(lists) & {id(each) for each in lists_within((paper, word))}, set())

    def test_told_again_after_what_was_told_was_changed(self):
        for table, paper, word in self.samples():
            for ask in (down, settled):
                told = ask(table, paper, word)
                first = copy.deepcopy(told)
                for each in list(lists_within(told)):
                    each.append(1)
                self.assertEqual(ask(table, paper, word), first)

    def test_what_is_done_later_to_the_word_changes_nothing(self):
        for table, paper, word in self.samples():
            word = list(word)
            told = (down(table, paper, word), settled(table, paper, word))
            first = copy.deepcopy(told)
            word.append(1)
            self.assertEqual(told, first)


class WordsOfBooksTests(unittest.TestCase):

    def test_a_short_words_list_is_of_just_those_that_can_be_come_to(self):
        for table, paper in PAPERS:
            for word in chance_words(22, table, (2, 4, 9)):
                for short, words in settled(table, paper, word + contrary(word))[1]:
                    if len(short) < paper[2]:
                        self.assertEqual(sorted(map(tuple, words)), sorted(come_to(table, short)))

    def test_a_word_of_the_length_or_more_goes_down(self):
        for paper, word in (([], [], 2, 2), [1, 1]), (([], [], 3, 2), [2, 2, 2]), (([], [], 4, 2), [1, 2, 1, 2]):
            kind, book = settled(SHALLOW_THREE, paper, word)
            self.assertEqual((kind, len(word)), ("rests", paper[2]))
            self.assertEqual(book[0], (word, go_down(SHALLOW_THREE, paper, word)))
            self.assertEqual(len(book[0][1]), 9)
            listed = [list(other) for other in come_to(SHALLOW_THREE, word)]
            self.assertIs(is_book(SHALLOW_THREE, paper, word, [(word, listed)] + book[1:]), False)
        for table, paper in PAPERS:
            for word in chance_words(23, table, (3, 8, 20)):
                for each, words in settled(table, paper, word + contrary(word))[1]:
                    if len(each) >= paper[2]:
                        self.assertEqual(words, go_down(table, paper, each))


if __name__ == "__main__":
    unittest.main()
