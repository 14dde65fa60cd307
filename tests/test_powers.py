"""Point 19 on words done many times: their round forms, told without writing them out."""

import random
import unittest

from boughturn.joints import turned
from boughturn.powers import root_of, times_form
from boughturn.presses import Press
from boughturn.signs import pieces_of, text_of, word_of
from boughturn.words import contrary
from tests.oracle import round_form
from tests.test_presses import PAIRS, chance_rules


class RootTests(unittest.TestCase):

    def test_roots(self):
        self.assertEqual(root_of(""), ("", 1))
        for root in ("2", "23", "223", "232", "22322", "2323232"):
            for times in (1, 2, 3, 4, 6, 7, 12, 25, 30, 49, 97, 121):
                self.assertEqual(root_of(root * times), (root, times))
        self.assertEqual(root_of("2" * 1001), ("2", 1001))
        self.assertEqual(root_of("2" * 1001 + "3"), ("2" * 1001 + "3", 1))


class TimesFormTests(unittest.TestCase):

    def form(self, rules, word, times):
        told = times_form(Press(rules), text_of(word), times)
        return told if told is None else (word_of(told[0]), told[1])

    def test_as_written_out(self):
        chance = random.Random(5)
        told = 0
        for _ in range(700):
            turners = chance.choice(((1, -1), (1, 2), (1, -1, 2, -2), (1, 2, 3)))
            rules = chance_rules(chance, turners) + (PAIRS if chance.random() < 0.4 else [])
            word = [chance.choice(turners) for _ in range(chance.choice((1, 2, 3, 5, 8, 12)))]
            ahead = [chance.choice(turners) for _ in range(chance.choice((0, 0, 0, 1, 3)))]
            word = (ahead + word + contrary(ahead)) * chance.choice((1, 1, 1, 2))
            for times in (chance.randint(6, 30), chance.randint(31, 90)):
                form = self.form(rules, word, times)
                if form is not None:
                    told += 1
                    self.assertEqual(form[0] * form[1], self.written(rules, word, times), (rules, word, times))
        self.assertGreater(told, 700)

    def written(self, rules, word, times):
        return word_of(turned(Press(rules), pieces_of(text_of(word * times)))[0])

    def test_as_the_oracle_tells(self):
        rules = [([2, 2], []), ([-2], [2]), ([1, 3], [2]), ([3, 3], [])]
        for word in ([1, 2], [2], [1, 2, 3, 2], [2, 1, 2], [3, 1, 3, 2, 2], [1, 1, 3]):
            for times in (7, 16, 33):
                form = self.form(rules, word, times)
                if form is not None:
                    self.assertEqual(form[0] * form[1], round_form(rules, word * times), (word, times))

    def test_too_often_to_be_written_out(self):
        often = 10 ** 40
        self.assertEqual(self.form([], [1], often), ([1], often))
        self.assertEqual(self.form([], [2, 1, 2, 1], often), ([1, 2], 2 * often))
        self.assertEqual(self.form(PAIRS, [3, 2, 1, -3], often), ([1, 2], often))
        self.assertEqual(self.form([([1, 1], [2])], [1], often), ([2], often // 2))

    def test_what_comes_to_little(self):
        often = 10 ** 40
        self.assertEqual(self.form([([3, 3], [])], [3], often), ([], 1))
        self.assertEqual(self.form([([3, 3], [])], [3], often + 1), ([3], 1))
        self.assertEqual(self.form([([3, 3, 3], [])], [3], often), ([3], 1))
        self.assertEqual(self.form([([3, 3, 3], [])], [3], often + 1), ([3], 2))
        self.assertEqual(self.form(PAIRS, [1, -1], often), ([], 1))
        self.assertEqual(self.form([], [], often), ([], 1))

    def test_what_goes_on_in_the_front_is_not_taken_for_more(self):
        # From the second time on the first ones are cut, too: it never gets longer.
        self.assertEqual(self.form([([2, 2, 2, 1], [2]), ([1], [])], [1, 2], 105), ([2], 3))


if __name__ == "__main__":
    unittest.main()
