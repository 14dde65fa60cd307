"""Point 19: which of a word's partings comes first, beside going through all of them; the turners by which it does."""

import random
import unittest

from boughturn.floors import settled
from boughturn.joints import Partings, agreement, least_start, turned
from boughturn.presses import Press
from boughturn.signs import pieces_of, text_of, word_of
from boughturn.words import contrary
from tests.oracle import cut_word, rank_key, round_form
from tests.sample_papers import PAPERS
from tests.samples import chance_words
from tests.test_presses import PAIRS, chance_rules


class LeastStartTests(unittest.TestCase):

    def check(self, text, last):
        told = min(range(last + 1), key=lambda at: (text[at:] + text[:at], at))
        self.assertEqual(least_start(text, last), told, (text, last))

    def test_by_chance(self):
        chance = random.Random(1)
        for _ in range(3000):
            text = "".join(chance.choice(chance.choice(("2", "23", "234"))) for _ in range(chance.choice((1, 3, 9, 40))))
            text = text * chance.choice((1, 1, 2, 5)) + chance.choice(("", "2", "32"))
            self.check(text, chance.randrange(len(text)))
            self.check(text, len(text) - 1)

    def test_rows_that_are_the_same_for_long(self):
        for size in (20, 33, 64, 100):
            for tail in ("", "2", "3", "23"):
                for last in (0, 1, size, 2 * size - 1):
                    self.check("2" * size + "3" + "2" * size + tail, last)
                    self.check("23" * size + tail, last)

    def test_a_text_without_signs(self):
        self.assertEqual(least_start("", 0), 0)

    def test_how_many_are_the_same(self):
        for size in (0, 1, 31, 32, 33, 95, 96, 97, 500):
            text = "2" * size + "3" + "2" * size + "4" + "5" * 600
            self.assertEqual(agreement(text, 0, size + 1, 10 ** 6), size)
            self.assertEqual(agreement(text, 0, size + 1, 40), min(size, 40))


class PartingTests(unittest.TestCase):

    def check(self, rules, word):
        word = cut_word(rules, word)
        told, place = Partings(Press(rules).shears, text_of(word)).first()
        others = [cut_word(rules, word[at:] + word[:at]) for at in range(max(1, len(word)))]
        self.assertEqual(word_of(told), min(others, key=rank_key), (rules, word))
        self.assertEqual(word_of(told), others[place], (rules, word))
        self.assertEqual(place == 0, others[0] == word_of(told))

    def test_by_chance(self):
        chance = random.Random(19)
        for _ in range(1500):
            turners = chance.choice(((1, -1), (1, 2), (1, -1, 2, -2), (1, 2, 3)))
            rules = chance_rules(chance, turners) + (PAIRS if chance.random() < 0.3 else [])
            word = [chance.choice(turners) for _ in range(chance.choice((0, 1, 2, 3, 5, 8, 12, 20)))]
            ahead = [chance.choice(turners) for _ in range(chance.choice((0, 0, 1, 3, 8)))]
            self.check(rules, (ahead + word + contrary(ahead)) * chance.choice((1, 1, 1, 2)))

    def test_rules_that_reach_over_the_joint_in_several_ways(self):
        rules = [([1, 2, 3], [4]), ([2, 3], [5]), ([4, 1], []), ([5, 5, 1], [2]), ([3, 1], [])]
        for word in ([3, 1, 1, 2], [3, 5, 1, 2], [2, 3, 5, 5], [3, 3, 3, 1, 2, 1, 2], [1, 4, 4, 1, 2, 5, 5]):
            for at in range(len(word)):
                self.check(rules, word[at:] + word[:at])


class TurnedTests(unittest.TestCase):

    def test_the_form_and_the_turner(self):
        for table, paper in PAPERS:
            for word in chance_words(20, table, (0, 1, 3, 6, 12, 25)):
                form, turner = turned(Press(paper[0]), pieces_of(text_of(word)))
                form, turner = word_of(form), word_of(turner)
                self.assertEqual(form, round_form(paper[0], word))
                about = contrary(turner) + word + turner + contrary(form)
                self.assertEqual(settled(table, paper, about)[0], "rests", (table, word))

    def test_long_words_that_are_turned_about(self):
        chance = random.Random(21)
        ahead = [chance.choice((1, 2, -3)) for _ in range(4000)]
        inner = [1, 2, 2, 3, 1, 2, 2, 3, 3]
        form, turner = turned(Press(PAIRS), pieces_of(text_of(ahead + inner + contrary(ahead))))
        self.assertEqual(word_of(form), inner)
        long = [chance.choice((2, 3)) for _ in range(30000)]
        for at in (1, 700, 29999):
            other = long[at:] + [1] + long[:at]
            self.assertEqual(word_of(turned(Press(PAIRS), pieces_of(text_of(other)))[0]), [1] + long)


if __name__ == "__main__":
    unittest.main()
