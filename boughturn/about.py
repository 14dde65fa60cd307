"""Words by which one word is turned about to another."""

from boughturn.acting import led
from boughturn.floors import Stair, settled_by
from boughturn.papers import longer_stiff
from boughturn.words import contrary


class Match:
    """Tells whether words are alike to one word, and keeps the ways by which others were told from it."""

    def __init__(self, table, paper, word):
        self.table = table
        self.stair = Stair(table, paper)
        self.word = word
        self.apart = []

    def is_apart(self, other):
        """Whether a way is kept that the other word leads elsewhere than the word does."""
        return any(led(self.table, other, way) != target for way, target in self.apart)

    def fits(self, other):
        """Whether the other word is alike to the word."""
        # Most words are told apart by a way that did so before, which is sooner seen than a word is settled.
        if self.is_apart(other):
            return False
        kind, told = settled_by(self.stair, other + contrary(self.word))
        if kind == "rests":
            return True
        self.apart.append((told, led(self.table, self.word, told)))
        return False


def turned_about(table, paper, one, other, most):
    """The first word of at most so many turners that turns the one word about to the other, or None."""
    match_other = Match(table, paper, other)
    level = [[]]
    for many in range(most + 1):
        if many > 0:
            # A word that is not stiff is alike to what it is cut to, which comes before it.
            level = longer_stiff(table, match_other.stair.shears, level)
        for word in level:
            if match_other.fits(contrary(word) + one + word):
                return list(word)
    return None
