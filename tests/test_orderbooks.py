"""Point 19: books of orders; point 2."""

import copy
import unittest

from boughturn.orderbooks import is_order_book
from boughturn.orders import order, round_form
from tests.oracle import all_words, round_form as oracle_form, steps_of
from tests.sample_papers import (
    BASIL, EVERY_OTHER, FIRST_PAPER, PAPERS, SHALLOW_FOUR, SHALLOW_THREE, THREES, DRAGON, paper_of,
)
from tests.samples import COUNT_TWO, FIRST, ODD_THINGS, turners


def book_of(table, paper, word):
    return order(table, paper, word, 1000)[2]


def changed(thing, at, other):
    """The list or tuple with another thing at this place."""
    return thing[:at] + type(thing)([other]) + thing[at + 1:]


class BookTests(unittest.TestCase):

    def yes(self, table, paper, word, thing):
        self.assertIs(is_order_book(table, paper, word, thing), True, (word, thing))

    def no(self, table, paper, word, thing):
        self.assertIs(is_order_book(table, paper, word, thing), False, (word, thing))

    samples = (
        (FIRST, FIRST_PAPER, [2, 1]), (FIRST, FIRST_PAPER, [1, 2, 1, 3, 1, 4]), (FIRST, FIRST_PAPER, [1]),
        (FIRST, FIRST_PAPER, []), (THREES, paper_of(THREES), [2, 1, 1]),
        (SHALLOW_THREE, paper_of(SHALLOW_THREE), [4, 3]), (SHALLOW_FOUR, paper_of(SHALLOW_FOUR), [1]),
    )


class TakenTests(BookTests):

    def test_told_books(self):
        for table, paper, word in self.samples:
            self.yes(table, paper, word, book_of(table, paper, word))

    def test_books_by_hand(self):
        nothing = ([], 1, [(0, 1, []), (1, 1, [])])
        self.yes(FIRST, FIRST_PAPER, [], [nothing])
        self.yes(FIRST, FIRST_PAPER, [2, 3, 4], [nothing])
        self.yes(FIRST, FIRST_PAPER, [-1], [([1], 2, [(0, 2, [])]), nothing])
        self.yes(FIRST, FIRST_PAPER, [1, 2, 1], [
            ([2], 2, [(0, 1, [1]), (1, 1, [3])]),
            ([4], 2, [(0, 1, []), (1, 1, [2])]),
            ([3], 2, [(0, 1, [1]), (1, 1, [4])]),
            nothing,
            ([1], 2, [(0, 2, [])]),
        ])

    def test_in_another_order(self):
        for table, paper, word in self.samples:
            book = book_of(table, paper, word)
            self.yes(table, paper, word, book[:1] + book[:0:-1])

    def test_for_words_of_the_same_round_form(self):
        for table, paper, word in self.samples:
            book = book_of(table, paper, word)
            for at in range(len(word)):
                turned = word[at:] + word[:at]
                self.assertIs(
                    is_order_book(table, paper, turned, book), oracle_form(paper[0], turned) == book[0][0],
                )

    def test_more_words_than_steps_lead_to(self):
        book = book_of(FIRST, FIRST_PAPER, [1, 4])
        known = [entry[0] for entry in book]
        more = [entry for entry in book_of(FIRST, FIRST_PAPER, [1, 2, 1, 3]) if entry[0] not in known]
        self.assertTrue(more)
        self.yes(FIRST, FIRST_PAPER, [1, 4], book + more)
        self.yes(FIRST, FIRST_PAPER, [1, 4], book[:1] + more + book[1:])
        self.no(FIRST, FIRST_PAPER, [1, 4], more + book)

    def test_rules_as_tuples(self):
        for table, (rules, closed, length, depth), word in self.samples:
            book = book_of(table, (rules, closed, length, depth), word)
            self.yes(table, (tuple(rules), tuple(closed), length, depth), word, book)


class RefusedTests(BookTests):

    def books(self):
        for table, paper, word in self.samples:
            yield table, paper, word, book_of(table, paper, word)

    def test_a_word_left_out(self):
        for table, paper, word, book in self.books():
            for at in range(len(book)):
                self.no(table, paper, word, book[:at] + book[at + 1:])

    def test_a_word_told_twice(self):
        for table, paper, word, book in self.books():
            for entry in book:
                self.no(table, paper, word, book + [entry])

    def test_another_first_word(self):
        for table, paper, word, book in self.books():
            for at in range(1, len(book)):
                self.no(table, paper, word, book[at:] + book[:at])

    def test_words_not_in_round_form(self):
        entry = ([4, 1], 4, [(0, 2, [2])])
        book = book_of(FIRST, FIRST_PAPER, [1, 4])
        self.no(FIRST, FIRST_PAPER, [4, 1], [entry] + book[1:])
        self.no(FIRST, FIRST_PAPER, [1, 4], book + [entry])
        self.no(FIRST, FIRST_PAPER, [4, 1], [entry] + book)
        self.no(FIRST, FIRST_PAPER, [], [([], 1, [(0, 1, []), (1, 1, [])]), ([1, 1], 1, [(0, 1, []), (1, 1, [])])])

    def test_steps_not_in_round_form(self):
        # The step from this word is to one that is turned about: as it stands it is none of the book.
        word = [1, 2, 1, 3]
        book = book_of(FIRST, FIRST_PAPER, word)
        for at, (each, many, steps) in enumerate(book):
            for place, (letter, times, target) in enumerate(steps):
                for other in (target[1:] + target[:1], target + [1, 1], [-turner for turner in target]):
                    if other != target:
                        spoiled = (each, many, changed(steps, place, (letter, times, other)))
                        self.no(FIRST, FIRST_PAPER, word, changed(book, at, spoiled))

    def test_another_order(self):
        for table, paper, word, book in self.books():
            for at, (each, many, steps) in enumerate(book):
                for other in (many + 1, many * 2, 0, -many, many // 2, True, None, str(many), [many], 10 ** 59):
                    if other is True or other != many:
                        self.no(table, paper, word, changed(book, at, (each, other, steps)))

    def test_another_letter_many_or_word_in_steps(self):
        for table, paper, word, book in self.books():
            for at, (each, many, steps) in enumerate(book):
                for place, (letter, times, target) in enumerate(steps):
                    others = (
                        (letter + 1, times, target), (letter - 1, times, target), (letter, times + 1, target),
                        (letter, times - 1, target), (letter, times * 2, target), (letter, times, target + [1]),
                        (letter, times, tuple(target)), (letter, times), (letter, times, target, 0), None, target,
                        [letter, times, target], (None, times, target), (letter, None, target), (letter, times, None),
                        (bool(letter), times, target), (letter, times, [0]), (str(letter), times, target),
                    )
                    for other in others:
                        spoiled = (each, many, changed(steps, place, other))
                        self.no(table, paper, word, changed(book, at, spoiled))

    def test_truths_for_one(self):
        nothing = ([], 1, [(0, 1, []), (1, 1, [])])
        self.no(FIRST, FIRST_PAPER, [], [([], True, nothing[2])])
        self.no(FIRST, FIRST_PAPER, [], [([], 1, [(0, True, []), (1, 1, [])])])
        self.no(FIRST, FIRST_PAPER, [], [([], 1, [(False, 1, []), (1, 1, [])])])
        self.no(FIRST, FIRST_PAPER, [], [([], 1, [(0, 1, []), (True, 1, [])])])
        self.no(FIRST, FIRST_PAPER, [1], [([True], 2, [(0, 2, [])]), nothing])
        book = book_of(FIRST, FIRST_PAPER, [2])
        self.assertEqual(book[0], ([2], 2, [(0, 1, [1]), (1, 1, [3])]))
        self.no(FIRST, FIRST_PAPER, [2], [([2], 2, [(0, 1, [True]), (1, 1, [3])])] + book[1:])

    def test_steps_in_another_order_or_left_out(self):
        for table, paper, word, book in self.books():
            for at, (each, many, steps) in enumerate(book):
                for other in (steps[::-1], steps[1:], steps[:-1], steps + steps[:1], [], tuple(steps), None, 1):
                    if other != steps:
                        self.no(table, paper, word, changed(book, at, (each, many, other)))

    def test_a_ring_of_steps_that_turns(self):
        table, paper = COUNT_TWO, paper_of(COUNT_TWO)
        nothing = ([], 1, [(0, 1, []), (1, 1, [])])
        for many in (1, 2, 4, 0, 10 ** 59):
            self.no(table, paper, [1], [([1], many, [(0, 2, [1])])])
            self.no(table, paper, [1], [([1], many, [(0, 2, [1])]), nothing])
            self.no(table, paper, [1, 1], [([1, 1], many, [(0, 1, [1]), (1, 1, [1])]), ([1], many, [(0, 2, [1])])])
            self.no(table, paper, [], [nothing, ([1], many, [(0, 2, [1])])])
        for table in (EVERY_OTHER, BASIL):
            paper = paper_of(table)
            for word in ([1], [1, 2], [1, 1, 2]):
                self.assertEqual(order(table, paper, word, 1000)[0], "never")
                listed = [round_form(paper, word)]
                for each in listed:
                    for step in steps_of(table, paper[0], each):
                        listed += [step[2]] if step[2] not in listed else []
                for many in (1, 2, 4, 8):
                    book = [(each, many if each else 1, steps_of(table, paper[0], each)) for each in listed]
                    self.no(table, paper, word, book)

    def test_another_word(self):
        for table, paper, word, book in self.books():
            for other in all_words(turners(table)[-2:], 2):
                taken = oracle_form(paper[0], other) == book[0][0]
                self.assertIs(is_order_book(table, paper, other, book), taken)

    def test_any_thing(self):
        for table, paper, word in self.samples:
            book = book_of(table, paper, word)
            for thing in (*ODD_THINGS, tuple(book)):
                self.no(table, paper, word, thing)
                self.no(table, paper, word, [thing])
                self.no(table, paper, word, [(thing, thing, thing)])
                self.no(table, paper, word, [(word, 1, thing)])
                self.no(table, paper, word, [(word, 1, [thing])])
                self.no(table, paper, word, book + [thing])
                self.no(table, paper, word, [thing] + book)

    def test_things_in_an_entrys_stead(self):
        for table, paper, word, book in self.books():
            for at, (each, many, steps) in enumerate(book):
                others = (
                    [each, many, steps], (each, many), (each, many, steps, steps), (tuple(each), many, steps),
                    (None, many, steps), (each, steps, many), ([0], many, steps), ([9], many, steps), each, None,
                )
                for other in others:
                    self.no(table, paper, word, changed(book, at, other))


class OwnListTests(BookTests):

    def test_what_was_handed_in_stays(self):
        for table, paper, word in self.samples:
            book = book_of(table, paper, word)
            for thing in (book, book[1:], [None], None):
                kept = copy.deepcopy((paper, word, thing))
                is_order_book(table, paper, word, thing)
                self.assertEqual((paper, word, thing), kept)

    def test_told_again(self):
        for table, paper in PAPERS:
            if table != DRAGON:
                for word in all_words(turners(table)[-2:], 2):
                    told = order(table, paper, word, 1000)
                    if told[0] == "order":
                        self.yes(table, paper, word, told[2])
                        kept = copy.deepcopy(told[2])
                        told[2][0][2].pop()
                        self.no(table, paper, word, told[2])
                        self.yes(table, paper, word, kept)


if __name__ == "__main__":
    unittest.main()
