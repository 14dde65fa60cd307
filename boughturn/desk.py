"""A desk that keeps tables and papers by names, and answers texts."""

from boughturn.about import turned_about
from boughturn.acting import led
from boughturn.belows import below
from boughturn.errors import NoName, NoRow
from boughturn.floors import settled
from boughturn.least import least
from boughturn.orders import order
from boughturn.papertexts import read_paper
from boughturn.texts import read_table, read_way, read_word, table_text, way_text, word_text
from boughturn.words import contrary

SMALL_LETTERS = "abcdefghijklmnopqrstuvwxyz"
MOST_SIGNS = 8
MOST_STEPPED = 300
MOST_ABOUT = 2

# How many words stand behind the name.
FIRST_WORDS = {
    "table": 0, "paper": 0, "show": 0, "lead": 2, "below": 2, "nothing": 1, "alike": 2, "order": 1, "about": 2,
    "least": 0,
}
WITH_MORE = ("table", "paper")


def show_text(table, fields):
    """The table's text."""
    return table_text(table)


def least_text(table, fields):
    """The least table's text."""
    return table_text(least(table)[0])


def lead_text(table, fields):
    """The way to which the word leads the way."""
    word, way = read_word(table, fields[0]), read_way(table, fields[1])
    return way_text(led(table, word, way))


def below_text(table, fields):
    """The word below the way."""
    word, way = read_word(table, fields[0]), read_way(table, fields[1])
    return word_text(below(table, word, way))


def nothing_text(table, paper, words):
    """Whether the word does nothing."""
    kind, told = settled(table, paper, words[0])
    return "yes" if kind == "rests" else way_text(told)


def alike_text(table, paper, words):
    """Whether the two words are alike."""
    return nothing_text(table, paper, [words[0] + contrary(words[1])])


def order_text(table, paper, words):
    """The word's order."""
    told = order(table, paper, words[0], MOST_STEPPED)
    return str(told[1]) if told[0] == "order" else told[0]


def about_text(table, paper, words):
    """The word that turns the one about to the other."""
    told = turned_about(table, paper, words[0], words[1], MOST_ABOUT)
    return "none" if told is None else word_text(told)


BY_TABLE = {"show": show_text, "least": least_text, "lead": lead_text, "below": below_text}
BY_PAPER = {"nothing": nothing_text, "alike": alike_text, "order": order_text, "about": about_text}


def look_name(name):
    """Refuses what is no name."""
    if not 1 <= len(name) <= MOST_SIGNS or any(sign not in SMALL_LETTERS for sign in name):
        raise NoRow(f"no name: {name}")


def read_row(text):
    """The first word, the name and the words behind it of a text's first row, and what is behind the row."""
    if not isinstance(text, str):
        raise NoRow("no text")
    row, line_end, more = text.partition("\n")
    fields = row.split(" ")
    first = fields[0]
    if first not in FIRST_WORDS or len(fields) != FIRST_WORDS[first] + 2:
        raise NoRow(f"no row: {row}")
    look_name(fields[1])
    if (line_end == "\n") != (first in WITH_MORE):
        raise NoRow(f"a line end too few or too many: {row}")
    return (first, fields[1], fields[2:], more)


class Desk:
    """Keeps tables by names, each with a paper, perhaps."""

    def __init__(self):
        self.tables = {}
        self.papers = {}

    def keep_table(self, name, text):
        """Keeps the table of this text, without a paper."""
        table = read_table(text)
        self.tables[name] = table
        if name in self.papers:
            del self.papers[name]
        return "ok"

    def keep_paper(self, name, text):
        """Keeps the paper of this text with the table."""
        self.papers[name] = read_paper(self.tables[name], text)
        return "ok"

    def ask_paper(self, first, name, fields):
        """The answer to a row that wants a paper."""
        table = self.tables[name]
        words = [read_word(table, field) for field in fields]
        if name not in self.papers:
            raise NoRow(f"no paper: {name}")
        answer = BY_PAPER[first]
        return answer(table, self.papers[name], words)

    def say(self, text):
        """The answer to the text."""
        first, name, fields, more = read_row(text)
        if first == "table":
            return self.keep_table(name, more)
        if name not in self.tables:
            raise NoName(f"no table: {name}")
        if first == "paper":
            return self.keep_paper(name, more)
        if first in BY_PAPER:
            return self.ask_paper(first, name, fields)
        answer = BY_TABLE[first]
        return answer(self.tables[name], fields)
