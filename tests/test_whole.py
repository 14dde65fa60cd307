"""Point 3: what is promised over the whole program, of tables and papers that were read from texts, as of others."""

import random
import unittest

from boughturn.about import turned_about
from boughturn.acting import led
from boughturn.balls import ball
from boughturn.belows import below
from boughturn.closed import is_closed, rests
from boughturn.desk import Desk
from boughturn.errors import NoLadder, NoPaper
from boughturn.first import first_ladder, first_paper, first_table
from boughturn.floors import down, is_book, settled
from boughturn.ladders import climb, look_ladder
from boughturn.least import classes, least
from boughturn.levels import turnings
from boughturn.orderbooks import is_order_book
from boughturn.orders import order
from boughturn.papers import look_paper
from boughturn.papertexts import paper_text, read_paper
from boughturn.rules import cut
from boughturn.texts import read_table, read_way, read_word, table_text, way_text, word_text
from boughturn.words import contrary
from tests.oracle import all_ways, all_words, come_to, does_nothing, leads_by_rows, makes_letters, rank_key
from tests.sample_ladders import LADDERS
from tests.sample_papers import DRAGON, PAPERS, shown_by
from tests.samples import TABLES, chance_words

# Two tables of three turners, each its own contrary: moves of discs on three pegs, and a tree that grows like a spiral.
TOWERS_TEXT = "letters 3\na 102 ..a\nb 210 .b.\nc 021 c.."
SPIRAL_TEXT = "letters 2\na 10 ..\nb 01 ac\nc 01 b."
TURNED_RULES = [([-k], [k]) for k in (1, 2, 3)] + [([k, k], []) for k in (1, 2, 3)]


def read_again(table):
    return read_table(table_text(table))


def chance_ways(seed, table, sizes):
    chance = random.Random(seed)
    for size in sizes:
        yield [chance.randrange(table[0]) for _ in range(size)]


class EveryTableTests(unittest.TestCase):

    def test_the_ways_beginning_and_its_rest(self):
        for table in map(read_again, TABLES):
            for word in chance_words(3, table, (1, 4, 20, 60)):
                for way in chance_ways(4, table, (0, 1, 7, 24)):
                    reached = led(table, word, way)
                    for many in range(0, len(way) + 1, 3):
                        head, rest = way[:many], way[many:]
                        self.assertEqual(reached, led(table, word, head) + led(table, below(table, word, head), rest))

    def test_word_and_contrary_undo_one_another(self):
        for table in map(read_again, TABLES):
            for word in chance_words(5, table, (1, 4, 20, 60)):
                for way in chance_ways(6, table, (1, 7, 24)):
                    self.assertEqual(led(table, contrary(word), led(table, word, way)), way)
                    self.assertEqual(led(table, word, led(table, contrary(word), way)), way)

    def test_no_two_ways_become_one(self):
        for table in map(read_again, TABLES):
            for word in chance_words(7, table, (1, 3, 12)):
                ways = all_ways(table, 3)
                self.assertEqual(sorted(led(table, word, way) for way in ways), ways)

    def test_doing_nothing_is_shown(self):
        for table in map(read_again, TABLES):
            for word in chance_words(8, table, (0, 1, 2, 3, 4)):
                kind, told = rests(table, word, 300)
                if kind == "rests":
                    self.assertIs(is_closed(table, told), True)
                    self.assertEqual(sorted(told), sorted(map(list, come_to(table, word))))
                elif kind == "moves":
                    self.assertNotEqual(leads_by_rows(table, word, told), told)
                    for way in all_ways(table, min(len(told), 4) - 1):
                        self.assertEqual(leads_by_rows(table, word, way), way)

    def test_least_tables_do_what_the_tables_do(self):
        for table in map(read_again, TABLES):
            fewer, names = least(table)
            fewer = read_again(fewer)
            for turner, name in enumerate(names, start=1):
                for way in chance_ways(9, table, (1, 5, 9)):
                    word = [name] if name else []
                    self.assertEqual(led(table, [turner], way), led(fewer, word, way))
            for alike in classes(fewer):
                self.assertLessEqual(len(alike), 2)
                self.assertEqual(len({abs(turner) for turner in alike}), 1, alike)


class EveryPaperTests(unittest.TestCase):

    def papers(self):
        for table, paper in PAPERS:
            table = read_again(table)
            yield table, read_paper(table, paper_text(paper))

    def test_floor_by_floor_to_few_turners(self):
        for table, paper in self.papers():
            for word in chance_words(10, table, (5, 20, 60)):
                words = [cut(paper[0], word)]
                while max(len(word) for word in words) >= paper[2]:
                    longest = max(len(word) for word in words)
                    long = [word for word in words if len(word) >= paper[2]]
                    words = [[]] + [told for word in long for told in down(table, paper, word)]
                    self.assertLess(max(len(word) for word in words), longest)

    def test_each_word_is_told_rightly(self):
        for table, paper in self.papers():
            for word in chance_words(11, table, (0, 1, 2, 3, 4, 5)):
                for other in (word, word + contrary(word), word * 4):
                    kind, told = settled(table, paper, other)
                    self.assertEqual(kind == "rests", does_nothing(table, other), (table, other))
                    if kind == "rests":
                        self.assertIs(is_book(table, paper, other, told), True)
                    else:
                        self.assertNotEqual(leads_by_rows(table, other, told), told)

    def test_orders_are_shown(self):
        for table, paper in self.papers():
            for word in chance_words(12, table, (1, 2, 3, 5)):
                told = order(table, paper, word, 300)
                if told[0] == "order":
                    self.assertIs(is_order_book(table, paper, word, told[2]), True)
                    self.assertEqual(settled(table, paper, word * told[1])[0], "rests")
                elif told[0] == "never":
                    kind, other, way, many, turner = told
                    self.assertEqual(led(table, other * many, way), way)
                    handed = below(table, other * many, way)
                    turned = contrary(turner) + handed + turner + contrary(other)
                    self.assertEqual(settled(table, paper, turned)[0], "rests")
                else:
                    self.assertEqual(table, DRAGON)

    def test_balls_and_words_turned_about(self):
        for table, paper in self.papers():
            words = [word for level in ball(table, paper, 2) for word in level]
            self.assertEqual(words, sorted(words, key=rank_key))
            for word in words[:12]:
                for turner in words[:6]:
                    other = contrary(turner) + word + turner
                    told = turned_about(table, paper, word, other, 2)
                    self.assertLessEqual(rank_key(told), rank_key(turner))
                    self.assertTrue(does_nothing(table, contrary(told) + word + told + contrary(other)))


class WhoeverWroteItTests(unittest.TestCase):

    def near_papers(self):
        """Papers by chance, near ones that are let by."""
        chance = random.Random(13)
        for table, (rules, closed, length, depth) in PAPERS[:10]:
            for _ in range(40):
                fewer = [rule for rule in rules if chance.random() < 0.9]
                left = next(chance_words(chance.random(), table, (chance.choice((1, 2, 3)),)))
                right = next(chance_words(chance.random(), table, (chance.choice((0, 1)),)))
                fewer.insert(chance.randint(0, len(fewer)), (left, right))
                shown = shown_by(table, fewer) if chance.random() < 0.7 else list(closed)
                yield table, (fewer, shown, chance.choice((length, 2, 3)), chance.choice((depth, 1, 2)))

    def test_whatever_paper_is_let_by(self):
        let_by = 0
        for table, paper in self.near_papers():
            try:
                look_paper(table, paper)
            except NoPaper:
                continue
            let_by += 1
            for left, right in paper[0]:
                self.assertTrue(does_nothing(table, left + contrary(right)))
            for word in chance_words(14, table, (2, 3, 4)):
                self.assertEqual(settled(table, paper, word)[0] == "rests", does_nothing(table, word))
        self.assertGreater(let_by, 20)

    def changed(self, chance, table, words, many, share):
        """The words, some of them others of so many turners."""
        others = list(chance_words(chance.random(), table, (many,) * len(words)))
        return [other if chance.random() < share else word for word, other in zip(words, others)]

    def test_whatever_ladder_is_let_by(self):
        chance = random.Random(15)
        let_by = 0
        for table, (letter, words, leads) in LADDERS * 25:
            letter = chance.choice((letter, letter, chance.randrange(table[0])))
            ladder = (letter, self.changed(chance, table, words, 2, 0.1), self.changed(chance, table, leads, 1, 0.4))
            try:
                look_ladder(table, ladder)
            except NoLadder:
                continue
            let_by += 1
            for one, other in zip(chance_ways(16, table, (1, 2, 3, 4)), chance_ways(17, table, (1, 2, 3, 4))):
                self.assertEqual(leads_by_rows(table, climb(table, ladder, one, other), one), other)
        self.assertGreater(let_by, 60)


class FurtherTablesTests(unittest.TestCase):

    def ask(self, text, rules, length, depth):
        """A desk with the table by the name of t."""
        table = read_table(text)
        desk = Desk()
        desk.say(f"table t\n{text}")
        desk.say("paper t\n" + paper_text((rules, shown_by(table, rules), length, depth)))
        return table, desk

    def test_towers(self):
        table, desk = self.ask(TOWERS_TEXT, TURNED_RULES, 2, 1)
        self.assertEqual(desk.say("order t a"), "2")
        self.assertEqual(desk.say("order t ab"), "never")
        self.assertEqual(desk.say("about t a bab"), "b")
        # Three discs are brought from the first peg to another one by seven turners.
        self.assertEqual(desk.say("lead t abcabca 000"), "111")
        self.assertEqual(desk.say("lead t bacbacb 000"), "222")
        for word in all_words((1, 2, 3), 4):
            told = desk.say(f"nothing t {word_text(word)}")
            self.assertEqual(told == "yes", does_nothing(table, word))
        self.assertEqual(len(turnings(table, 1, 300)[1]), 6)

    def test_spiral(self):
        for length, depth in ((2, 2), (2, 3), (3, 2), (4, 3)):
            table, desk = self.ask(SPIRAL_TEXT, TURNED_RULES, length, depth)
            for word in all_words((1, 2, 3), 4):
                told = desk.say(f"nothing t {word_text(word)}")
                self.assertEqual(told == "yes", does_nothing(table, word))

    def test_the_first_table_by_texts(self):
        table = read_table(table_text(first_table()))
        paper = read_paper(table, paper_text(first_paper()))
        self.assertEqual((table, paper), (first_table(), first_paper()))
        ladder = first_ladder()
        for one, other in zip(chance_ways(18, table, (6,) * 20), chance_ways(19, table, (6,) * 20)):
            word = read_word(table, word_text(climb(table, ladder, one, other)))
            self.assertEqual(way_text(led(table, word, one)), way_text(other))
            self.assertEqual(read_way(table, way_text(one)), one)
        for word in chance_words(20, table, (8, 16, 32)):
            many = order(table, paper, word, 300)[1]
            self.assertEqual(many & (many - 1), 0)
            self.assertEqual(makes_letters(table, word * many), [0, 1])
            self.assertEqual(settled(table, paper, word * many)[0], "rests")


if __name__ == "__main__":
    unittest.main()
