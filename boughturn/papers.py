"""The checker of papers."""

from boughturn.acting import ways_of
from boughturn.belows import below
from boughturn.closed import come_to, first_unclosed
from boughturn.errors import NoPaper
from boughturn.rules import Shears, is_rule
from boughturn.tables import is_within
from boughturn.words import contrary, is_word, rising_turners, tidied

MOST_RULES = 60
MOST_CLOSED = 300
LEAST_LENGTH = 2
MOST_LENGTH = 4
LEAST_DEPTH = 1
MOST_DEPTH = 3
MOST_WAYS = 16
MOST_STIFF = 500
MOST_COME_TO = 200


def is_row_of(most, thing):
    """Whether the thing is a list or tuple of at most so many things."""
    return isinstance(thing, (list, tuple)) and len(thing) <= most


def many_ways(letters, depth):
    """How many ways of depth letters there are."""
    many = 1
    for place in range(depth):
        many *= letters
    return many


def is_frame(table, thing):
    """Whether the thing is a paper but for what is in its rules and its closed list."""
    if not isinstance(thing, tuple) or len(thing) != 4:
        return False
    rules, closed, length, depth = thing
    if not is_row_of(MOST_RULES, rules) or not is_row_of(MOST_CLOSED, closed):
        return False
    if not is_within(LEAST_LENGTH, length, MOST_LENGTH) or not is_within(LEAST_DEPTH, depth, MOST_DEPTH):
        return False
    return many_ways(table[0], depth) <= MOST_WAYS


def look_kinds(table, rules, closed):
    """Refuses the first thing that is no rule, then the first that is no word."""
    for at, thing in enumerate(rules):
        if not is_rule(table, thing):
            raise NoPaper("rule", at)
    for at, thing in enumerate(closed):
        if not is_word(table, thing):
            raise NoPaper("closed", at)


def look_shown(table, rules, closed):
    """Refuses the first word by which the list isn't closed, then the first rule that the list doesn't show."""
    fault = first_unclosed(table, closed)
    if fault is not None:
        raise NoPaper("closed", fault)
    listed = {tuple(word) for word in closed}
    for at, (left, right) in enumerate(rules):
        if tuple(tidied(left + contrary(right))) not in listed:
            raise NoPaper("rule", at)


def longer_stiff(table, shears, words):
    """The stiff words of one turner behind a word of these, in their order where these are in theirs."""
    rising = rising_turners(table)
    longer = [word + [turner] for word in words for turner in rising]
    return [word for word in longer if shears.is_stiff(word)]


def stiff_words(table, shears, length):
    """All stiff words of at most length turners, in their order, or None where they are too many."""
    level = [[]]
    found = list(level)
    for many in range(length):
        level = longer_stiff(table, shears, level)
        found.extend(level)
        if len(found) > MOST_STIFF:
            return None
    return found


def is_shortened(table, shears, word, ways):
    """Whether the word is, below each of the ways and cut, a word of fewer turners."""
    return all(len(shears.cut_word(below(table, word, way))) < len(word) for way in ways)


def look_stiff(table, shears, length, depth):
    """Refuses too many stiff words, then the first one that comes to too many words or is not shortened."""
    words = stiff_words(table, shears, length)
    if words is None:
        raise NoPaper("stiff", 0)
    ways = ways_of(table, depth)
    for at, word in enumerate(words):
        if len(word) < length:
            let_by = come_to(table, word, MOST_COME_TO) is not None
        else:
            let_by = is_shortened(table, shears, word, ways)
        if not let_by:
            raise NoPaper("stiff", at)


def look_paper(table, thing):
    """None, where the thing, any thing, is a paper for the table; else its first fault is refused."""
    if not is_frame(table, thing):
        raise NoPaper("paper", 0)
    rules, closed, length, depth = thing
    look_kinds(table, rules, closed)
    look_shown(table, rules, closed)
    look_stiff(table, Shears(rules), length, depth)
