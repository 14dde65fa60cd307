"""Point 27 on tables, words and ways: how they are written and read, and what is refused; point 2 on these."""

import random
import unittest

from boughturn.errors import NoText
from boughturn.tables import is_table
from boughturn.texts import read_table, read_way, read_word, table_text, way_text, word_text
from tests.sample_ladders import COUNT_FOUR, STILL_100
from tests.sample_papers import BASIL, DRAGON, SHALLOW_FOUR, SHALLOW_THREE, THREES
from tests.samples import (
    COUNT_THREE, COUNT_TWO, EIGHT_ROWS, FIRST, MIXED_FOUR, MIXED_THREE, NO_ROWS, ODD_THINGS, TABLES, chance_words,
)

MORE_TABLES = TABLES + (THREES, BASIL, DRAGON, SHALLOW_THREE, SHALLOW_FOUR, COUNT_FOUR, STILL_100, (2, ()), (4, ()))

FIRST_TEXT = "letters 2\na 10 ..\nb 01 ac\nc 01 ad\nd 01 .b"
MIXED_TEXT = "letters 3\na 120 .Ba\nb 201 baA\nc 021 C.b"

NO_TEXTS = tuple(thing for thing in ODD_THINGS if not isinstance(thing, str)) + (
    10, -3, ["."], ("a",), [FIRST_TEXT], (FIRST_TEXT,), ["letters 2"], b"letters 2",
)


class RefusingTests(unittest.TestCase):

    def refused(self, reader, *things):
        with self.assertRaises(ValueError, msg=things) as caught:
            reader(*things)
        self.assertIs(type(caught.exception), NoText)


class TableTests(RefusingTests):

    def no_table(self, text):
        self.refused(read_table, text)

    def test_told_texts(self):
        self.assertEqual(table_text(FIRST), FIRST_TEXT)
        self.assertEqual(table_text(MIXED_THREE), MIXED_TEXT)
        self.assertEqual(table_text(COUNT_FOUR), "letters 4\na 1230 ...a")
        self.assertEqual(table_text(MIXED_FOUR), "letters 4\na 1230 b.Aa\nb 2031 .Ba.")
        for letters in (2, 3, 4):
            self.assertEqual(table_text((letters, ())), f"letters {letters}")
        rows = [f"{small} 10 {small}{small.upper()}" for small in "abcdefgh"]
        self.assertEqual(table_text(EIGHT_ROWS), "\n".join(["letters 2"] + rows))

    def test_read_texts(self):
        self.assertEqual(read_table(FIRST_TEXT), FIRST)
        self.assertEqual(read_table(MIXED_TEXT), MIXED_THREE)
        self.assertEqual(read_table("letters 3"), NO_ROWS)
        for table in MORE_TABLES:
            told = read_table(table_text(table))
            self.assertEqual(told, table)
            self.assertIs(is_table(told), True)
            self.assertEqual(table_text(told), table_text(table))

    def test_what_was_read_is_written_again_as_it_was(self):
        """Texts by chance, near ones that are right: refused, or written again as they were."""
        chance = random.Random(27)
        read = 0
        for text in (FIRST_TEXT, MIXED_TEXT, "letters 4\na 1230 ...a", table_text(EIGHT_ROWS), "letters 2"):
            for _ in range(600):
                at = chance.randrange(len(text))
                sign = chance.choice(" \n.-+0123456789abcdefghiABCDEFGHIz~_")
                other = chance.choice((text[:at] + text[at + 1:], text[:at] + sign + text[at:],
                                       text[:at] + sign + text[at + 1:]))
                try:
                    table = read_table(other)
                except NoText:
                    continue
                read += 1
                self.assertIs(is_table(table), True)
                self.assertEqual(table_text(table), other)
        self.assertGreater(read, 30)

    def test_no_texts(self):
        for thing in NO_TEXTS:
            self.no_table(thing)

    def test_numbers(self):
        for number in ("0", "1", "5", "10", "02", "002", "+2", "-2", "2.", "", "two", "0000000002", "1234567890",
                       "123456789", "2 ", " 2", "2\t", "a", "0x2", "2_"):
            self.no_table(f"letters {number}")
        for number in ("0", "1", "02", "5", "2222222222"):
            self.no_table(f"letters {number}\na 10 ..")
        self.no_table("letters 5\na 12340 .....")
        self.no_table("letters 1\na 0 .")

    def test_signs_like_figures(self):
        for sign in ("\u0662", "\u00b2", "\uff12"):
            self.no_table(f"letters {sign}")
            self.no_table(f"letters 3\na 10{sign} ...")
            self.refused(read_way, COUNT_THREE, sign)

    def test_the_first_row(self):
        for row in ("", "letters", "letter 2", "Letters 2", "letters2", "letters 2 2", "2", "letters  2", " letters 2",
                    "letters 2 ", "length 2", "a 10 .."):
            self.no_table(row)
            self.no_table(f"{row}\na 10 ..")

    def test_line_ends(self):
        for text in ("letters 2\n", "\nletters 2", "letters 2\n\na 10 ..", FIRST_TEXT + "\n", "\n" + FIRST_TEXT, "\n",
                     FIRST_TEXT.replace("\n", "\n\n"), FIRST_TEXT.replace("\n", " "), FIRST_TEXT.replace("\n", ""),
                     FIRST_TEXT.replace("\n", "\r\n"), "letters\n2", "letters 2\na\n10 .."):
            self.no_table(text)

    def test_blanks(self):
        for row in (" a 10 ..", "a 10 .. ", "a  10 ..", "a 10  ..", "a10 ..", "a 10..", "a 10 . .", "a 1 0 ..", "a10..",
                    "a\t10 ..", "a 10", "a 10 ", "a", "a ", "a  ", "a 10 .. .."):
            self.no_table(f"letters 2\n{row}")

    def test_a_rows_letter(self):
        for letter in ("b", "A", ".", "h", "i", "0", "", "aa", "ab", "1"):
            self.no_table(f"letters 2\n{letter} 10 ..")
        self.no_table("letters 2\na 10 ..\na 01 ..")
        self.no_table("letters 2\nb 10 ..\na 01 ..")
        self.no_table("letters 2\na 10 ..\nc 01 ..")
        self.no_table("letters 2\na 10 ..\nB 01 ..")

    def test_more_than_eight_rows(self):
        rows = [f"{small} 10 .." for small in "abcdefghi"]
        self.assertEqual(len(read_table("\n".join(["letters 2"] + rows[:8]))[1]), 8)
        self.no_table("\n".join(["letters 2"] + rows))
        self.no_table("\n".join(["letters 2"] + rows[:8] + ["h 10 .."]))
        self.no_table("\n".join(["letters 2"] + rows[:8] + [""]))

    def test_swaps(self):
        for swaps in ("00", "11", "12", "02", "20", "1", "0", "101", "01 ", "", "ab", "-", "..", "1-0", "+10", "010"):
            self.no_table(f"letters 2\na {swaps} ..")
        for swaps in ("10", "0123", "113", "013", "100", "222"):
            self.no_table(f"letters 3\na {swaps} ...")

    def test_parts(self):
        for parts in ("", ".", "a", "...", "aaa", "ab", "b.", ".B", "i.", "0.", "a-", "00", "-", "1.", "a a", "~~"):
            self.no_table(f"letters 2\na 10 {parts}")
        for parts in ("..", "a.", ".A", "Aa", "aa"):
            self.assertEqual(table_text(read_table(f"letters 2\na 10 {parts}")), f"letters 2\na 10 {parts}")
        self.assertEqual(read_table("letters 2\na 10 bB\nb 01 .A"), (2, (((1, 0), (2, -2)), ((0, 1), (0, -1)))))
        self.no_table("letters 2\na 10 bc\nb 01 .A")
        self.no_table("letters 3\na 012 ..")
        self.no_table("letters 3\na 012 ....")


class WordTests(RefusingTests):

    def test_told_texts(self):
        self.assertEqual(word_text([]), ".")
        self.assertEqual(word_text([1, 2, 3, 4, 5, 6, 7, 8]), "abcdefgh")
        self.assertEqual(word_text([-1, -2, -3, -4, -5, -6, -7, -8]), "ABCDEFGH")
        self.assertEqual(word_text([1, -1, 2]), "aAb")
        self.assertEqual(word_text([3] * 100), "c" * 100)

    def test_read_texts(self):
        self.assertEqual(read_word(FIRST, "."), [])
        self.assertEqual(read_word(FIRST, "aBdDA"), [1, -2, 4, -4, -1])
        self.assertEqual(read_word(EIGHT_ROWS, "abcdefghABCDEFGH"), [*range(1, 9), *range(-1, -9, -1)])
        for table in MORE_TABLES:
            for word in chance_words(27, table, (0, 1, 2, 17, 60)):
                text = word_text(word)
                self.assertEqual(read_word(table, text), word)
                self.assertEqual(word_text(read_word(table, text)), text)

    def test_refused(self):
        for text in ("", "e", "E", "ae", "a.", ".a", "..", "a b", " a", "a ", "a\n", "\n", "-", "0", "1", "a-",
                     "\u00e4", "i", "z", "Z", "ab\nc", "a+", "[1]", "~"):
            self.refused(read_word, FIRST, text)
        for text in ("a", "A", "", "-", "..", " "):
            self.refused(read_word, NO_ROWS, text)
        for text in ("b", "B", "aba"):
            self.refused(read_word, COUNT_TWO, text)
        self.refused(read_word, EIGHT_ROWS, "i")

    def test_no_texts(self):
        for thing in NO_TEXTS:
            self.refused(read_word, FIRST, thing)

    def test_own_lists(self):
        for text in (".", "ab"):
            told = read_word(FIRST, text)
            first = list(told)
            told.append(1)
            self.assertEqual(read_word(FIRST, text), first)
        word = [1, 2]
        word_text(word)
        self.assertEqual(word, [1, 2])


class WayTests(RefusingTests):

    def test_told_texts(self):
        self.assertEqual(way_text([]), "-")
        self.assertEqual(way_text([0]), "0")
        self.assertEqual(way_text([3, 2, 1, 0]), "3210")
        self.assertEqual(way_text([1] * 24), "1" * 24)

    def test_read_texts(self):
        self.assertEqual(read_way(FIRST, "-"), [])
        self.assertEqual(read_way(FIRST, "0010"), [0, 0, 1, 0])
        self.assertEqual(read_way(NO_ROWS, "210"), [2, 1, 0])
        self.assertEqual(read_way(COUNT_FOUR, "0123"), [0, 1, 2, 3])
        chance = random.Random(28)
        for table in MORE_TABLES:
            for many in (0, 1, 5, 24):
                way = [chance.randrange(table[0]) for _ in range(many)]
                self.assertEqual(read_way(table, way_text(way)), way)
                self.assertEqual(way_text(read_way(table, way_text(way))), way_text(way))

    def test_refused(self):
        for text in ("", "2", "012", "-0", "0-", "--", ".", "0 1", " 0", "0 ", "0\n", "a", "01a", "+1", "-1", "0.0"):
            self.refused(read_way, FIRST, text)
        self.refused(read_way, COUNT_THREE, "0123")
        self.refused(read_way, COUNT_FOUR, "4")

    def test_no_texts(self):
        for thing in NO_TEXTS:
            self.refused(read_way, FIRST, thing)

    def test_own_lists(self):
        for text in ("-", "01"):
            told = read_way(FIRST, text)
            first = list(told)
            told.append(1)
            self.assertEqual(read_way(FIRST, text), first)


if __name__ == "__main__":
    unittest.main()
