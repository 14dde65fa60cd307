"""How words go down floor by floor by a paper, and whether they do nothing."""

from boughturn.acting import led, ways_of
from boughturn.belows import below
from boughturn.closed import come_to, is_closed, rests
from boughturn.papers import MOST_COME_TO
from boughturn.rules import Shears
from boughturn.tables import is_pair
from boughturn.words import is_word


class Stair:
    """Goes down by one table and paper, and keeps what came of each piece: the same ones come again and again."""

    def __init__(self, table, paper):
        self.table = table
        self.shears = Shears(paper[0])
        self.length = paper[2]
        self.ways = ways_of(table, paper[3])
        self.known = {}

    def pass_piece(self, piece, way):
        """The way to which the piece leads the way, and the piece below it, cut."""
        key = (tuple(piece), tuple(way))
        if key not in self.known:
            handed = self.shears.cut_word(below(self.table, piece, way))
            self.known[key] = (led(self.table, piece, way), handed)
        return self.known[key]

    def pass_word(self, word, way):
        """The way to which the cut word leads the way, and the word below it, piece by piece and cut."""
        joined = []
        for start in range(0, len(word), self.length):
            way, handed = self.pass_piece(word[start:start + self.length], way)
            joined.extend(handed)
        return (way, self.shears.cut_word(joined))

    def floor(self, word):
        """Way by way of the floor's depth, the way to which the word leads it, and the word below it."""
        kept = self.shears.cut_word(word)
        return [self.pass_word(kept, way) for way in self.ways]

    def is_long(self, word):
        """Whether the word goes down; what a shorter one does is told by the words that can be come to."""
        return len(word) >= self.length

    def told_of(self, word):
        """A way that the word leads elsewhere: ("moves", way); or the words to which it comes next."""
        if not self.is_long(word):
            return rests(self.table, word, MOST_COME_TO)
        floor = self.floor(word)
        for way, (reached, handed) in zip(self.ways, floor):
            if reached != way:
                return ("moves", list(way))
        return ("rests", [handed for reached, handed in floor])


def down(table, paper, word):
    """Way by way, what the word is below it by the paper."""
    return [handed for reached, handed in Stair(table, paper).floor(word)]


def settled_by(stair, word):
    """What `settled` tells, by a stair that may have gone down before."""
    found = [stair.shears.cut_word(word)]
    way_to = {tuple(found[0]): []}
    book = []
    while len(book) < len(found):
        each = found[len(book)]
        way = way_to[tuple(each)]
        kind, told = stair.told_of(each)
        if kind == "moves":
            return ("moves", way + told)
        book.append((each, told))
        if stair.is_long(each):
            for step, handed in zip(stair.ways, told):
                if tuple(handed) not in way_to:
                    way_to[tuple(handed)] = way + step
                    found.append(list(handed))
    return ("rests", book)


def settled(table, paper, word):
    """Whether the word does nothing by the paper, with what shows it: ("rests", book) or ("moves", way)."""
    return settled_by(Stair(table, paper), word)


def is_entry(table, thing):
    """Whether the thing is a tuple of a word and a list of words."""
    if not is_pair(thing) or not is_word(table, thing[0]) or not isinstance(thing[1], list):
        return False
    return all(is_word(table, word) for word in thing[1])


def is_come_to(table, word, words):
    """Whether the words are a closed list of just those that can be come to from the word, each once."""
    found = come_to(table, word, len(words))
    return found is not None and sorted(found) == sorted(words) and is_closed(table, words)


def is_shown(stair, listed, word, words):
    """Whether the words show, with the listed ones, that the word does nothing."""
    if not stair.is_long(word):
        return is_come_to(stair.table, word, words)
    return stair.told_of(word) == ("rests", words) and all(tuple(each) in listed for each in words)


def is_book(table, paper, word, thing):
    """Whether the thing, any thing, is a book by which the paper shows that the word does nothing."""
    if not isinstance(thing, list) or not all(is_entry(table, entry) for entry in thing):
        return False
    stair = Stair(table, paper)
    listed = {tuple(entry[0]): True for entry in thing}
    if not thing or len(listed) != len(thing) or thing[0][0] != stair.shears.cut_word(word):
        return False
    return all(is_shown(stair, listed, each, words) for each, words in thing)
