"""Point 28: the desk's rows, its answers and its refusals; point 2 on these."""

import unittest

from boughturn.acting import led
from boughturn.desk import Desk
from boughturn.errors import NoName, NoPaper, NoRow, NoText
from boughturn.first import first_paper, first_table
from boughturn.least import least
from boughturn.orders import order
from boughturn.papertexts import paper_text
from boughturn.texts import read_way, read_word, table_text, way_text, word_text
from tests.oracle import all_words, does_nothing, words_below_way
from tests.sample_ladders import COUNT_FOUR
from tests.sample_papers import BASIL, DRAGON, PAPERS, SHALLOW_FOUR, paper_of
from tests.samples import COUNT_TWO, FIRST, NO_ROWS, ODD_THINGS, TABLES, TWIN_FOUR, TWIN_THREE, chance_words

FIRST_TEXT = table_text(FIRST)
FIRST_PAPER_TEXT = paper_text(first_paper())
COUNT_TEXT = "letters 2\na 10 .a"
COUNT_PAPER_TEXT = "length 2\ndepth 1\nrule aA .\nrule Aa .\nclosed ."

# Each first word, with how many words stand behind the name, and whether something is due behind the row.
ROWS = {
    "table": (0, True), "paper": (0, True), "show": (0, False), "lead": (2, False), "below": (2, False),
    "nothing": (1, False), "alike": (2, False), "order": (1, False), "about": (2, False), "least": (0, False),
}
WANT_PAPERS = ("nothing", "alike", "order", "about")

# Words behind the name that are right by the first table.
FIELDS = {"lead": "ab 01", "below": "ab 01", "nothing": "ab", "alike": "ab ba", "order": "ab", "about": "ab ba"}


def good_row(first, name):
    """A row without a fault, and what is due behind it."""
    row = f"{first} {name} {FIELDS[first]}" if first in FIELDS else f"{first} {name}"
    return row + {"table": "\n" + FIRST_TEXT, "paper": "\n" + FIRST_PAPER_TEXT}.get(first, "")


def full_desk():
    """A desk that keeps the first table with a paper, and another one without."""
    desk = Desk()
    desk.say(f"table first\n{FIRST_TEXT}")
    desk.say(f"paper first\n{FIRST_PAPER_TEXT}")
    desk.say(f"table count\n{COUNT_TEXT}")
    return desk


def desk_of(table, paper):
    desk = Desk()
    desk.say(f"table t\n{table_text(table)}")
    desk.say(f"paper t\n{paper_text(paper)}")
    return desk


class AnswerTests(unittest.TestCase):

    def test_each_row_with_its_answer(self):
        desk = Desk()
        self.assertEqual(desk.say(f"table first\n{FIRST_TEXT}"), "ok")
        self.assertEqual(desk.say(f"paper first\n{FIRST_PAPER_TEXT}"), "ok")
        self.assertEqual(desk.say("show first"), FIRST_TEXT)
        self.assertEqual(desk.say("lead first ab 01"), "11")
        self.assertEqual(desk.say("lead first . 01"), "01")
        self.assertEqual(desk.say("lead first ab -"), "-")
        self.assertEqual(desk.say("below first ab 0"), "c")
        self.assertEqual(desk.say("below first ab 01"), "d")
        self.assertEqual(desk.say("below first a 01"), ".")
        self.assertEqual(desk.say("below first aBc -"), "aBc")
        self.assertEqual(desk.say("nothing first bcd"), "yes")
        self.assertEqual(desk.say("nothing first ."), "yes")
        self.assertEqual(desk.say("alike first bc d"), "yes")
        self.assertEqual(desk.say("alike first ab ab"), "yes")
        self.assertEqual(desk.say("order first ab"), "16")
        self.assertEqual(desk.say("order first ."), "1")
        self.assertEqual(desk.say("about first d ada"), "a")
        self.assertEqual(desk.say("about first d d"), ".")
        self.assertEqual(desk.say("about first b c"), "none")
        self.assertEqual(desk.say("least first"), FIRST_TEXT)

    def test_answers_are_texts(self):
        desk = full_desk()
        for first in ROWS:
            self.assertIs(type(desk.say(good_row(first, "first"))), str)

    def test_what_needs_no_paper(self):
        desk = full_desk()
        self.assertEqual(desk.say("show count"), COUNT_TEXT)
        self.assertEqual(desk.say("lead count a 110"), "001")
        self.assertEqual(desk.say("below count aa 0"), "a")
        self.assertEqual(desk.say("least count"), COUNT_TEXT)

    def test_show_and_least(self):
        for table in TABLES:
            desk = Desk()
            desk.say(f"table t\n{table_text(table)}")
            self.assertEqual(desk.say("show t"), table_text(table))
            self.assertEqual(desk.say("least t"), table_text(least(table)[0]))
        self.assertNotEqual(table_text(TWIN_THREE), table_text(least(TWIN_THREE)[0]))

    def test_lead_and_below(self):
        for table in TABLES:
            desk = Desk()
            desk.say(f"table t\n{table_text(table)}")
            for word in chance_words(28, table, (0, 1, 7, 60)):
                for way in ([], [0], [1, 0, 1], [table[0] - 1] * 24):
                    row = f"{word_text(word)} {way_text(way)}"
                    self.assertEqual(desk.say(f"lead t {row}"), way_text(led(table, word, way)))
                    self.assertEqual(desk.say(f"below t {row}"), word_text(words_below_way(table, word, way)))

    def test_nothing(self):
        desk = full_desk()
        for word in all_words((1, 2, 3, -4), 3):
            told = desk.say(f"nothing first {word_text(word)}")
            self.assertEqual(told == "yes", does_nothing(FIRST, word), word)
            if told != "yes":
                way = read_way(FIRST, told)
                self.assertNotEqual(led(FIRST, word, way), way)

    def test_alike(self):
        desk = full_desk()
        words = list(all_words((1, 2, -3), 2))
        for one in words:
            for other in words:
                told = desk.say(f"alike first {word_text(one)} {word_text(other)}")
                self.assertEqual(told == "yes", does_nothing(FIRST, one + [-turner for turner in other[::-1]]))
                if told != "yes":
                    way = read_way(FIRST, told)
                    # The way is one that the one word with the contrary of the other behind it leads elsewhere.
                    self.assertNotEqual(led(FIRST, one, way), led(FIRST, other, way))

    def test_alike_with_contraries(self):
        desk = desk_of(BASIL, paper_of(BASIL))
        for one, other in (("ab", "ab"), ("aAb", "b"), ("abA", "abA")):
            self.assertEqual(desk.say(f"alike t {one} {other}"), "yes")
        for one, other in (("ab", "BA"), ("a", "A"), ("ab", "ba")):
            way = read_way(BASIL, desk.say(f"alike t {one} {other}"))
            self.assertNotEqual(led(BASIL, read_word(BASIL, one), way), led(BASIL, read_word(BASIL, other), way))

    def test_order(self):
        desk = full_desk()
        for text, many in (("a", "2"), ("ad", "4"), ("ac", "8"), ("ab", "16"), ("bcd", "1"), ("A", "2")):
            self.assertEqual(desk.say(f"order first {text}"), many)
        count = desk_of(COUNT_TWO, paper_of(COUNT_TWO))
        for text in ("a", "A", "aaa"):
            self.assertEqual(count.say(f"order t {text}"), "never")
        self.assertEqual(count.say("order t aA"), "1")
        shallow = desk_of(SHALLOW_FOUR, paper_of(SHALLOW_FOUR))
        self.assertEqual(shallow.say("order t a"), "12")
        dragon = desk_of(DRAGON, paper_of(DRAGON))
        self.assertEqual(dragon.say("order t a"), "open")
        self.assertEqual(dragon.say("order t aA"), "1")

    def test_order_as_told_with_the_most_300(self):
        for table, paper in PAPERS:
            desk = desk_of(table, paper)
            for word in chance_words(30, table, (2, 6, 11)):
                told = order(table, paper, word, 300)
                expected = str(told[1]) if told[0] == "order" else told[0]
                self.assertEqual(desk.say(f"order t {word_text(word)}"), expected)

    def test_the_most_of_about_is_two(self):
        desk = full_desk()
        self.assertEqual(desk.say("about first b cabac"), "ac")
        self.assertEqual(desk.say("about first b acabaca"), "none")
        self.assertEqual(desk.say("about first b aba"), "a")

    def test_no_rows(self):
        desk = desk_of(NO_ROWS, paper_of(NO_ROWS))
        self.assertEqual(desk.say("show t"), "letters 3")
        self.assertEqual(desk.say("lead t . 210"), "210")
        self.assertEqual(desk.say("below t . 210"), ".")
        self.assertEqual(desk.say("nothing t ."), "yes")
        self.assertEqual(desk.say("order t ."), "1")
        self.assertEqual(desk.say("about t . ."), ".")
        self.assertEqual(desk.say("least t"), "letters 3")

    def test_names(self):
        desk = Desk()
        for name in ("a", "z", "table", "abcdefgh", "show", "zzzzzzzz"):
            self.assertEqual(desk.say(f"table {name}\n{FIRST_TEXT}"), "ok")
            self.assertEqual(desk.say(f"show {name}"), FIRST_TEXT)


class KeepingTests(unittest.TestCase):

    def test_a_table_put_by_a_kept_name_has_no_paper(self):
        desk = full_desk()
        self.assertEqual(desk.say("order first ab"), "16")
        for text in (COUNT_TEXT, FIRST_TEXT):
            self.assertEqual(desk.say(f"table first\n{text}"), "ok")
            self.assertEqual(desk.say("show first"), text)
            for first in WANT_PAPERS:
                fields = {"nothing": "a", "order": "a"}.get(first, "a a")
                with self.assertRaises(NoRow):
                    desk.say(f"{first} first {fields}")
        desk.say(f"paper first\n{FIRST_PAPER_TEXT}")
        self.assertEqual(desk.say("order first ab"), "16")

    def test_a_paper_in_the_place_of_another(self):
        desk = full_desk()
        for other in (paper for table, paper in PAPERS if table == FIRST):
            self.assertEqual(desk.say(f"paper first\n{paper_text(other)}"), "ok")
            self.assertEqual(desk.say("order first ab"), "16")

    def test_each_name_has_its_own(self):
        desk = full_desk()
        desk.say(f"paper count\n{COUNT_PAPER_TEXT}")
        desk.say(f"table more\n{table_text(TWIN_FOUR)}")
        self.assertEqual(desk.say("order count a"), "never")
        self.assertEqual(desk.say("order first a"), "2")
        self.assertEqual(desk.say("show more"), table_text(TWIN_FOUR))
        with self.assertRaises(NoRow):
            desk.say("order more a")

    def test_a_refused_table_leaves_all_as_it_was(self):
        desk = full_desk()
        for text in ("", "letters 5", "letters 2\n", FIRST_TEXT + "\n", "letters 2\nb 10 ..", FIRST_PAPER_TEXT):
            with self.assertRaises(NoText):
                desk.say(f"table first\n{text}")
            self.assertEqual(desk.say("show first"), FIRST_TEXT)
            self.assertEqual(desk.say("order first ab"), "16")
            with self.assertRaises(NoText):
                desk.say(f"table new\n{text}")
            with self.assertRaises(NoName):
                desk.say("show new")

    def test_a_refused_paper_leaves_all_as_it_was(self):
        desk = full_desk()
        for text, error in (("length 2\ndepth 1", NoPaper), ("length 2", NoText), (FIRST_TEXT, NoText), ("", NoText)):
            with self.assertRaises(error):
                desk.say(f"paper first\n{text}")
            self.assertEqual(desk.say("order first ab"), "16")
            with self.assertRaises(error):
                desk.say(f"paper count\n{text}")
            with self.assertRaises(NoRow):
                desk.say("order count a")

    def test_two_desks_asked_by_turns(self):
        one, other = Desk(), Desk()
        one.say(f"table t\n{FIRST_TEXT}")
        with self.assertRaises(NoName):
            other.say("show t")
        other.say(f"table t\n{COUNT_TEXT}")
        self.assertEqual(one.say("show t"), FIRST_TEXT)
        self.assertEqual(other.say("show t"), COUNT_TEXT)
        one.say(f"paper t\n{FIRST_PAPER_TEXT}")
        with self.assertRaises(NoRow):
            other.say("order t a")
        other.say(f"paper t\n{COUNT_PAPER_TEXT}")
        for _ in range(2):
            self.assertEqual(one.say("order t a"), "2")
            self.assertEqual(other.say("order t a"), "never")

    def test_asked_twice(self):
        desk = full_desk()
        rows = [good_row(first, "first") for first in ROWS]
        self.assertEqual([desk.say(row) for row in rows], [desk.say(row) for row in rows])


class RefusalTests(unittest.TestCase):

    def refused(self, error, text, desk=None):
        """Refused with just this error; all is kept as it was."""
        desk = full_desk() if desk is None else desk
        with self.assertRaises(ValueError, msg=repr(text)) as caught:
            desk.say(text)
        self.assertIs(type(caught.exception), error, repr(text))
        self.assertEqual(desk.say("show first"), FIRST_TEXT)
        self.assertEqual(desk.say("show count"), COUNT_TEXT)
        self.assertEqual(desk.say("order first ab"), "16")
        with self.assertRaises(NoRow):
            desk.say("order count a")

    def test_no_text(self):
        for thing in ODD_THINGS:
            if not isinstance(thing, str):
                self.refused(NoRow, thing)
        self.refused(NoRow, ["show first"])
        self.refused(NoRow, ("show first",))
        self.refused(NoRow, b"show first")

    def test_another_first_word(self):
        for row in ("", " ", "\n", "first", "shows first", "Show first", "SHOW first", "sho first", "rests first a",
                    "tables first\n" + FIRST_TEXT, "ladder first", "help", "- first", "show\tfirst", "say show first"):
            self.refused(NoRow, row)

    def test_words_too_few_or_too_many(self):
        for first, (many, more) in ROWS.items():
            behind = good_row(first, "first").partition("\n")[1:]
            for count in range(5):
                if count != many:
                    row = " ".join([first, "first"] + ["a"] * count)
                    self.refused(NoRow, row + "".join(behind))
            self.refused(NoRow, first + "".join(behind))

    def test_blanks(self):
        for first in ROWS:
            row, end, behind = good_row(first, "first").partition("\n")
            doubled, tabbed = row.replace(" ", "  ", 1), row.replace(" ", "\t")
            for other in (" " + row, row + " ", doubled, "  " + row, row + "  ", tabbed):
                self.refused(NoRow, other + end + behind)
        # A word without signs where a word is due is a fault of what is read.
        for row in ("lead first  01", "lead first ab ", "below first  01", "nothing first ", "alike first  ab",
                    "alike first ab ", "order first ", "about first  ab", "about first ab "):
            self.refused(NoText, row)
        self.refused(NoRow, "show ")
        self.refused(NoRow, "nothing  ab")

    def test_names(self):
        names = ("", "abcdefghi", "A", "First", "firsT", "t1", "1", "a_b", "a-b", ".", "a.b", "\u00e4", "fi\u017ft")
        for name in names:
            for first in ROWS:
                self.refused(NoRow, good_row(first, name))

    def test_line_ends(self):
        for first, (many, more) in ROWS.items():
            row, end, behind = good_row(first, "first").partition("\n")
            if more:
                self.refused(NoRow, row)
            else:
                self.refused(NoRow, row + "\n")
                self.refused(NoRow, row + "\nshow first")
                self.refused(NoRow, row + "\n" + FIRST_TEXT)

    def test_a_table_that_is_not_kept(self):
        for first in ROWS:
            if first != "table":
                self.refused(NoName, good_row(first, "other"))

    def test_what_is_behind(self):
        ends = (FIRST_TEXT + "\n", "\n" + FIRST_TEXT)
        for text in ("", "letters 2\n", "letters 9", " letters 2", FIRST_PAPER_TEXT) + ends:
            self.refused(NoText, f"table first\n{text}")
            self.refused(NoText, f"table new\n{text}")
        for text in ("", "length 2", "length 2\ndepth 1\n", FIRST_TEXT, FIRST_PAPER_TEXT + "\n", "length 2\ndepth 01"):
            self.refused(NoText, f"paper first\n{text}")
            self.refused(NoText, f"paper count\n{text}")

    def test_the_words_of_rows(self):
        for bad in ("e", "E", "a.", "..", "-", "0", "x", "a1"):
            for row in (f"lead first {bad} 01", f"below first {bad} 01", f"nothing first {bad}", f"alike first {bad} a",
                        f"alike first a {bad}", f"order first {bad}", f"about first {bad} a", f"about first a {bad}"):
                self.refused(NoText, row)
        for bad in ("2", "02", ".", "a", "--", "0-"):
            self.refused(NoText, f"lead first a {bad}")
            self.refused(NoText, f"below first a {bad}")

    def test_words_are_read_by_that_table(self):
        for row in ("lead count b 0", "below count B 0", "lead count ab 0"):
            self.refused(NoText, row)
        self.refused(NoText, f"paper count\n{FIRST_PAPER_TEXT}")
        desk = Desk()
        desk.say(f"table four\n{table_text(COUNT_FOUR)}")
        self.assertEqual(desk.say("lead four a 3"), "0")

    def test_no_paper(self):
        for text in ("length 2\ndepth 1", "length 9\ndepth 1", "length 2\ndepth 1\nrule a a"):
            self.refused(NoPaper, f"paper first\n{text}")
            self.refused(NoPaper, f"paper count\n{text}")
        with self.assertRaises(NoPaper) as caught:
            full_desk().say("paper first\nlength 2\ndepth 1\nrule AA .\nrule a a\nclosed .\nclosed AA")
        self.assertEqual((caught.exception.where, caught.exception.at), ("rule", 1))

    def test_a_paper_is_wanted(self):
        for first in WANT_PAPERS:
            fields = {"nothing": "a", "order": "a"}.get(first, "a A")
            self.refused(NoRow, f"{first} count {fields}")

    def test_no_row_ahead_of_all(self):
        # The name isn't kept, what is behind is no text of the kind, and the row is at fault, too.
        for row in ("table\nx", "table other more\nx", "table Other\nx", "paper other more\nx", "paper Other\nx",
                    "paper other", "table other", "show other\n", "lead other e 7\n", "lead other e",
                    "lead other e 7 7", "nothing other\nx", "nothing other x x", "order Other x",
                    "about other x\n", "leads other e 7"):
            self.refused(NoRow, row)

    def test_no_name_ahead_of_no_text(self):
        for row in ("paper other\nx", "paper other\n", "lead other e 7", "below other e 7", "nothing other x",
                    "alike other x x", "order other x", "about other x x", "nothing other ",
                    "paper other\nlength 9\ndepth 9"):
            self.refused(NoName, row)

    def test_no_text_ahead_of_a_paper_that_is_wanted(self):
        for row in ("nothing count b", "alike count b a", "alike count a b", "order count b", "about count b a",
                    "about count a b", "order count ", "nothing count -"):
            self.refused(NoText, row)

    def test_no_text_ahead_of_no_paper(self):
        self.refused(NoText, "paper first\nlength 9\ndepth 9\nclosed x")
        self.refused(NoText, "paper count\nlength 2\ndepth 1\nrule a a\nclosed b")

    def test_a_fresh_desk_keeps_nothing(self):
        for first in ROWS:
            if first != "table":
                with self.assertRaises(NoName):
                    Desk().say(good_row(first, "first"))
        self.assertEqual(Desk().say(good_row("table", "first")), "ok")

    def test_the_table_told_is_the_first_one(self):
        self.assertEqual(full_desk().say("show first"), table_text(first_table()))

    def test_own_methods(self):
        self.assertIn("say", vars(Desk))


if __name__ == "__main__":
    unittest.main()
