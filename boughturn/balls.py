"""Balls: the words of few turners that are alike to none before them."""

from boughturn.acting import led
from boughturn.floors import Stair, settled_by
from boughturn.papers import longer_stiff
from boughturn.words import contrary


class Fork:
    """A word; or, where a way is set, branches to further forks by where words lead that way."""

    def __init__(self, word):
        self.word = word
        self.way = None
        self.branches = {}


class Sieve:
    """Takes in words that are alike to none taken in before, the word without turners being the first one."""

    def __init__(self, table, paper):
        self.table = table
        self.stair = Stair(table, paper)
        self.root = Fork([])

    def reached(self, word, way):
        """Where the word leads the way, as a key."""
        return tuple(led(self.table, word, way))

    def part_at(self, fork, word, way):
        """Takes in the word, which leads the way elsewhere than the fork's word does."""
        fork.way = way
        fork.branches[self.reached(fork.word, way)] = Fork(fork.word)
        fork.branches[self.reached(word, way)] = Fork(word)

    def takes(self, word):
        """Whether the word is alike to none taken in before; then it is taken in."""
        fork = self.root
        while fork.way is not None:
            key = self.reached(word, fork.way)
            if key not in fork.branches:
                fork.branches[key] = Fork(word)
                return True
            fork = fork.branches[key]
        # All other words are known to lead some way elsewhere, so this is the only one to be settled.
        kind, told = settled_by(self.stair, word + contrary(fork.word))
        if kind == "rests":
            return False
        self.part_at(fork, word, told)
        return True


def ball(table, paper, n):
    """For each number of turners from 0 to n, the words of so many that are alike to no word before them."""
    sieve = Sieve(table, paper)
    told = [[[]]]
    for many in range(n):
        # A word that is not stiff is alike to what it is cut to, which comes before it.
        longer = longer_stiff(table, sieve.stair.shears, told[many])
        level = []
        for word in longer:
            if sieve.takes(word):
                level.append(word)
        told.append(level)
    return told
