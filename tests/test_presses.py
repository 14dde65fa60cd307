"""Point 13 on long words, cut piece by piece."""

import random
import unittest
from unittest import mock

from boughturn import presses
from boughturn.presses import Press, take_top
from boughturn.rules import cut
from boughturn.signs import text_of, word_of
from tests.oracle import cut_word
from tests.sample_long import LONG_RULES

PAIRS = [([k, -k], []) for k in (1, 2, 3)] + [([-k, k], []) for k in (1, 2, 3)]


def chance_rules(chance, turners):
    """Rules by chance, of which lefts stand in lefts, and which cut a word otherwise from the front than elsewhere."""
    rules = []
    for _ in range(chance.choice((1, 2, 3, 4, 6, 8))):
        left = [chance.choice(turners) for _ in range(chance.choice((1, 2, 2, 2, 3, 3, 4, 5, 6)))]
        rules.append((left, [chance.choice(turners) for _ in range(chance.randint(0, len(left) - 1))]))
    return rules


def parted(chance, text):
    """The text in pieces by chance."""
    pieces = []
    while text:
        size = chance.choice((1, 2, 3, 7, 20))
        pieces.append(text[:size])
        text = text[size:]
    return pieces


class PressTests(unittest.TestCase):

    def test_pieces_by_chance(self):
        chance = random.Random(13)
        for _ in range(600):
            turners = chance.choice(((1, -1), (1, 2), (1, -1, 2, -2)))
            rules = chance_rules(chance, turners) + (PAIRS if chance.random() < 0.3 else [])
            word = [chance.choice(turners) for _ in range(chance.choice((0, 1, 5, 12, 40)))] * chance.choice((1, 1, 2, 5))
            press = Press(rules)
            for _ in range(3):
                told = press.cut_pieces(parted(chance, text_of(word)))
                self.assertEqual(word_of(told), cut_word(rules, word), (rules, word))
            self.assertEqual(word_of(press.cut_text(text_of(word))), cut_word(rules, word), (rules, word))

    def test_little_is_kept(self):
        chance = random.Random(14)
        with mock.patch.object(presses, "MOST_KNOWN", 3):
            for _ in range(100):
                rules = chance_rules(chance, (1, 2))
                word = [chance.choice((1, 2)) for _ in range(60)]
                told = Press(rules).cut_pieces(parted(chance, text_of(word)))
                self.assertEqual(word_of(told), cut_word(rules, word), (rules, word))

    def test_long_words(self):
        chance = random.Random(15)
        half = [chance.choice((1, 2)) for _ in range(20000)]
        back = [-turner for turner in half[::-1]]
        press = Press(PAIRS)
        self.assertEqual(press.cut_text(text_of(half + back)), "")
        self.assertEqual(word_of(press.cut_text(text_of(half + [3] + back))), half + [3] + back)
        self.assertEqual(word_of(press.cut_text(text_of(half + [-3, 3] + back + [2] + half))), [2] + half)

    def test_long_words_of_a_paper(self):
        chance = random.Random(16)
        for size in (300, 5000):
            part = [chance.choice((1, -1, 2, 3, 4, -4, 5, 6, -6, 7)) for _ in range(size)]
            word = part + [6, 1] + part + [7, 2] + part * 3
            told = Press(LONG_RULES).cut_text(text_of(word))
            self.assertEqual(word_of(told), cut(LONG_RULES, word))

    def test_the_last_signs_of_several_texts(self):
        for size in range(12):
            done = ["ab", "", "cde", "f", "ghi"]
            top = take_top(done, size)
            self.assertEqual(top, "abcdefghi"[max(0, 9 - size):] if size else "")
            self.assertEqual("".join(done) + top, "abcdefghi")


if __name__ == "__main__":
    unittest.main()
