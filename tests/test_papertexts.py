"""Point 27 on papers: how they are written and read, and what is refused; point 2 on these."""

import copy
import random
import unittest

from boughturn.errors import NoPaper, NoText
from boughturn.papers import look_paper
from boughturn.papertexts import paper_text, read_paper
from tests.sample_papers import FIRST_PAPER, PAPERS, SHALLOW_THREE, shown_by
from tests.samples import COUNT_TWO, FIRST, NO_ROWS, lists_within
from tests.test_texts import NO_TEXTS

COUNT_RULES = [([1, -1], []), ([-1, 1], [])]
COUNT_TEXT = "length 2\ndepth 1\nrule aA .\nrule Aa .\nclosed ."
COUNT_LINES = COUNT_TEXT.split("\n")


def as_lists(paper):
    return list(paper[0]), list(paper[1]), *paper[2:]


class PaperTextTests(unittest.TestCase):

    def no_text(self, text, table=COUNT_TWO):
        with self.assertRaises(ValueError, msg=repr(text)) as caught:
            read_paper(table, text)
        self.assertIs(type(caught.exception), NoText, repr(text))

    def no_paper(self, where, at, text, table=COUNT_TWO):
        with self.assertRaises(ValueError, msg=repr(text)) as caught:
            read_paper(table, text)
        self.assertIs(type(caught.exception), NoPaper, repr(text))
        self.assertEqual((caught.exception.where, caught.exception.at), (where, at))

    def test_told_texts(self):
        self.assertEqual(paper_text((COUNT_RULES, [[]], 2, 1)), COUNT_TEXT)
        self.assertEqual(paper_text(([], [], 4, 3)), "length 4\ndepth 3")
        self.assertEqual(paper_text(([], [[1, 2, -8], []], 3, 2)), "length 3\ndepth 2\nclosed abH\nclosed .")
        self.assertEqual(paper_text(([([-2], [2])], [], 2, 2)), "length 2\ndepth 2\nrule B b")
        self.assertEqual(paper_text((tuple(COUNT_RULES), ([],), 2, 1)), COUNT_TEXT)

    def test_read_texts(self):
        self.assertEqual(read_paper(COUNT_TWO, COUNT_TEXT), (COUNT_RULES, [[]], 2, 1))
        for table, paper in PAPERS:
            text = paper_text(paper)
            told = read_paper(table, text)
            self.assertEqual(told, as_lists(paper))
            self.assertIsNone(look_paper(table, told))
            self.assertEqual(paper_text(told), text)

    def test_kinds(self):
        told = read_paper(FIRST, paper_text(FIRST_PAPER))
        self.assertIs(type(told), tuple)
        self.assertIs(type(told[0]), list)
        self.assertIs(type(told[1]), list)
        for rule in told[0]:
            self.assertIs(type(rule), tuple)
        self.assertEqual([type(number) for number in told[2:]], [int, int])

    def test_no_rules_and_no_closed_words(self):
        self.assertEqual(read_paper(NO_ROWS, "length 2\ndepth 1"), ([], [], 2, 1))
        self.assertEqual(read_paper(SHALLOW_THREE, "length 2\ndepth 2"), ([], [], 2, 2))
        self.assertEqual(read_paper(SHALLOW_THREE, "length 2\ndepth 2\nclosed ."), ([], [[]], 2, 2))
        self.no_paper("rule", 0, "length 2\ndepth 1\nrule aA .")

    def test_no_texts(self):
        for thing in NO_TEXTS:
            self.no_text(thing)

    def test_numbers(self):
        for number in ("", "02", "+2", "-2", "2.", "two", "0000000002", "1234567890", "2 ", " 2", "2 2", "a"):
            self.no_text("\n".join([f"length {number}"] + COUNT_LINES[1:]))
            self.no_text("\n".join([COUNT_LINES[0], f"depth {number}"] + COUNT_LINES[2:]))
        for number in ("0", "1", "5", "10", "123456789", "999999999"):
            self.no_paper("paper", 0, "\n".join([f"length {number}"] + COUNT_LINES[1:]))
        for number in ("0", "4", "10", "123456789"):
            self.no_paper("paper", 0, "\n".join([COUNT_LINES[0], f"depth {number}"] + COUNT_LINES[2:]))

    def test_line_ends(self):
        for text in ("", "\n", COUNT_TEXT + "\n", "\n" + COUNT_TEXT, COUNT_TEXT.replace("\n", "\n\n"),
                     COUNT_TEXT.replace("\n", " "), COUNT_TEXT.replace("\n", "\r\n"), "length 2", "length 2\n",
                     "length 2\ndepth 1\n", "length\n2\ndepth 1"):
            self.no_text(text)

    def test_blanks(self):
        for at, line in enumerate(COUNT_LINES):
            replaced = [line.replace(" ", other) for other in ("  ", "", "\t")]
            for other in [" " + line, line + " "] + replaced:
                self.no_text("\n".join(COUNT_LINES[:at] + [other] + COUNT_LINES[at + 1:]))

    def test_rows_in_another_order(self):
        length, depth, rule, other, closed = COUNT_LINES
        for lines in ((depth, length, rule, other, closed), (length, depth, closed, rule, other),
                      (length, depth, rule, closed, other), (rule, length, depth, other, closed),
                      (length, rule, depth, other, closed), (closed, length, depth, rule, other)):
            self.no_text("\n".join(lines))

    def test_rows_too_few_or_too_many(self):
        length, depth, rule, other, closed = COUNT_LINES
        for lines in ((length,), (depth,), (depth, rule, other, closed), (length, rule, other, closed),
                      (length, length, depth, rule), (length, depth, depth, rule, other, closed), (rule, closed)):
            self.no_text("\n".join(lines))

    def test_first_words(self):
        for at, name in ((0, "length"), (1, "depth"), (2, "rule"), (4, "closed")):
            for other in (name.upper(), name.title(), name + "s", name[:-1], ""):
                line = COUNT_LINES[at].replace(name, other)
                self.no_text("\n".join(COUNT_LINES[:at] + [line] + COUNT_LINES[at + 1:]))

    def test_words_in_rows(self):
        for line in ("rule", "rule aA", "rule ", "rule . . .", "rule aA . .", "rule aA", "rule aA b", "rule bB .",
                     "rule aA -", "rule aA 0", "rule a. .", "rule aA ..", "rule aA\t."):
            self.no_text("\n".join(COUNT_LINES[:2] + [line] + COUNT_LINES[3:]))
        for line in ("closed", "closed ", "closed . .", "closed b", "closed -", "closed a.", "closed ..", "closed 1"):
            self.no_text("\n".join(COUNT_LINES[:4] + [line]))

    def test_papers_that_are_not_let_by(self):
        head = "length 2\ndepth 1\n"
        self.no_paper("rule", 0, head + "rule . .\nclosed .")
        self.no_paper("rule", 1, head + "rule aA .\nrule a a\nclosed .")
        self.no_paper("rule", 0, head + "rule a aA\nclosed .")
        self.no_paper("rule", 0, head + "rule aaaaaaa .\nclosed .")
        self.no_paper("closed", 1, head + "rule aA .\nclosed .\nclosed a")
        self.no_paper("rule", 2, head + "rule aA .\nrule Aa .\nrule aa .\nclosed .")
        self.no_paper("stiff", 4, "length 2\ndepth 1")
        self.no_paper("stiff", 4, head + "closed .")
        self.no_paper("paper", 0, head + "\n".join(["rule aA ."] * 61 + ["closed ."]))
        self.no_paper("paper", 0, head + "\n".join(["closed ."] * 301))
        self.assertEqual(len(read_paper(COUNT_TWO, head + "\n".join(
            ["rule aA ."] * 59 + ["rule Aa ."] + ["closed ."] * 300))[1]), 300)

    def test_no_text_ahead_of_no_paper(self):
        for tail in ("closed b", "rule aA", "closed .\n", "closed . ", "closed"):
            self.no_text(f"length 9\ndepth 9\n{tail}")
            self.no_text(f"length 2\ndepth 1\nrule a a\nrule . .\n{tail}")
        self.no_text("length 9\ndepth 01")

    def test_written_again_as_it_was(self):
        """Texts by chance, near ones that are right: refused, or written again as they were."""
        chance = random.Random(29)
        kinds = set()
        for table, text in ((COUNT_TWO, COUNT_TEXT), (FIRST, paper_text(FIRST_PAPER)), (NO_ROWS, "length 2\ndepth 1")):
            for _ in range(700):
                at = chance.randrange(len(text))
                sign = chance.choice(" \n.-0123456789abcdABCDelr")
                other = chance.choice((text[:at] + text[at + 1:], text[:at] + sign + text[at:],
                                       text[:at] + sign + text[at + 1:]))
                try:
                    paper = read_paper(table, other)
                except (NoText, NoPaper) as refused:
                    kinds.add(type(refused))
                    continue
                kinds.add(None)
                self.assertIsNone(look_paper(table, paper))
                self.assertEqual(paper_text(paper), other)
        self.assertEqual(kinds, {None, NoText, NoPaper})

    def test_words_are_read_by_the_table(self):
        rules = [([-1], [1]), ([1, 1], [])]
        table = (2, (((1, 0), (0, 0)),))
        text = paper_text((rules, shown_by(table, rules), 2, 1))
        self.assertEqual(read_paper(table, text)[0], rules)
        self.no_text(text.replace("a", "b").replace("A", "B"), table)
        self.no_text("length 2\ndepth 1\nclosed a", NO_ROWS)

    def test_told_again_after_what_was_told_was_changed(self):
        for table, paper in PAPERS:
            text = paper_text(paper)
            told = read_paper(table, text)
            first = copy.deepcopy(told)
            lists = list(lists_within(told))
            self.assertEqual(len({id(each) for each in lists}), len(lists))
            for each in lists:
                each.append(1)
            self.assertEqual(read_paper(table, text), first)

    def test_what_was_handed_in_stays(self):
        for table, paper in PAPERS:
            kept = copy.deepcopy(paper)
            paper_text(paper)
            self.assertEqual(paper, kept)


if __name__ == "__main__":
    unittest.main()
