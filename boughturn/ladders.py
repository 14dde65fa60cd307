"""Ladders, by which any way is led to any other one as long."""

from boughturn.acting import led
from boughturn.belows import passed
from boughturn.closed import rests
from boughturn.errors import NoLadder
from boughturn.tables import is_triple, is_within
from boughturn.words import contrary, is_word, tidied

MOST_TURNERS = 12
MOST_COME_TO = 100


def is_row_of_just(many, thing):
    """Whether the thing is a list or tuple of just so many things."""
    return isinstance(thing, (list, tuple)) and len(thing) == many


def is_frame(table, thing):
    """Whether the thing is a ladder but for what is in its words and its leads."""
    if not is_triple(thing) or not is_within(0, thing[0], table[0] - 1):
        return False
    return is_row_of_just(len(table[1]), thing[1]) and is_row_of_just(table[0], thing[2])


def is_rung(table, thing):
    """Whether the thing is a word that a ladder may have."""
    return is_word(table, thing) and len(thing) <= MOST_TURNERS


def is_lift(table, letter, turner, thing):
    """Whether the thing is a word that leaves the letter as it is and is below it alike to the turner."""
    if not is_rung(table, thing):
        return False
    made, handed = passed(table, thing, letter)
    return made == letter and rests(table, handed + [-turner], MOST_COME_TO)[0] == "rests"


def is_lead(table, letter, target, thing):
    """Whether the thing is a word that makes the target of the letter."""
    return is_rung(table, thing) and passed(table, thing, letter)[0] == target


def look_ladder(table, thing):
    """None, where the thing, any thing, is a ladder of the table; else it is refused."""
    if not is_frame(table, thing):
        raise NoLadder("ladder")
    letter, words, leads = thing
    if not all(is_lift(table, letter, turner, word) for turner, word in enumerate(words, start=1)):
        raise NoLadder("words")
    if not all(is_lead(table, letter, target, lead) for target, lead in enumerate(leads)):
        raise NoLadder("leads")


def lifted(words, word):
    """The word that does below the ladder's letter what the word does."""
    told = []
    for turner in word:
        told.extend(words[turner - 1] if turner > 0 else contrary(words[-turner - 1]))
    return told


def climb(table, ladder, one, other):
    """A word that leads the one way to the other, which is as long."""
    if not one:
        return []
    words, leads = ladder[1], ladder[2]
    start, end = leads[one[0]], leads[other[0]]
    # Both ways are led to ones that begin with the ladder's letter, so that the rest can be led below it.
    rest = led(table, contrary(start), one)[1:]
    target = led(table, contrary(end), other)[1:]
    return tidied(contrary(start) + lifted(words, climb(table, ladder, rest, target)) + end)
