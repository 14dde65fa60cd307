"""Words as texts: point 6 on them, and how they are parted."""

import random
import unittest

from boughturn.signs import LEAST_PIECE, pieces_of, text_of, word_of
from boughturn.words import before


class SignTests(unittest.TestCase):

    def test_there_and_back(self):
        self.assertEqual(text_of([]), "")
        self.assertEqual(word_of(""), [])
        for word in ([1], [-1], [1, -1, 8, -8], list(range(1, 31)), [-turner for turner in range(1, 31)]):
            self.assertEqual(len(text_of(word)), len(word))
            self.assertEqual(word_of(text_of(word)), word)

    def test_texts_of_the_same_size_compare_as_words_do(self):
        chance = random.Random(1)
        for _ in range(2000):
            size = chance.choice((1, 2, 5))
            one, other = ([chance.choice((1, -1, 2, -2, 8, -8)) for _ in range(size)] for _ in range(2))
            self.assertEqual(before(one, other), text_of(one) < text_of(other))


class PieceTests(unittest.TestCase):

    def check(self, text):
        pieces = pieces_of(text)
        self.assertEqual("".join(pieces), text)
        self.assertLessEqual(max(map(len, pieces)), max(8 * 64, len(text) // 2000 * 8))
        return pieces

    def test_put_together_they_are_the_text(self):
        chance = random.Random(2)
        for size in (0, 1, 63, 64, 65, 66, 67, 100, 129, 1000, 20000):
            for signs in ("2", "23", "2345"):
                self.check("".join(chance.choice(signs) for _ in range(size)))

    def test_a_text_that_stands_there_twice(self):
        chance = random.Random(3)
        for size in range(30, 140):
            half = "".join(chance.choice("23") for _ in range(size))
            self.check(half + half)
            self.check("2" * size + half)
            self.check((half[:3] + "4") * size)

    def test_what_comes_again_is_parted_alike(self):
        chance = random.Random(4)
        half = "".join(chance.choice("2345") for _ in range(3000))
        pieces = self.check(half + "2" + half + "33" + half + "444" + half)
        self.assertGreater(len(pieces), 4 * 3000 // (8 * LEAST_PIECE))
        self.assertLess(len(set(pieces)), len(pieces) // 2)


if __name__ == "__main__":
    unittest.main()
