"""Closed lists of words, and whether a word does nothing."""

from boughturn.belows import belows, letters_of
from boughturn.words import contrary, tidied


def moved_letter(table, word):
    """The first letter of which the word makes another one, or None."""
    for letter, made in enumerate(letters_of(table, word)):
        if made != letter:
            return letter
    return None


def tidied_belows(table, word):
    """Letter by letter, the word below it, tidied."""
    return [tidied(handed) for handed in belows(table, word)]


def first_unclosed(table, words):
    """The number of the first word that keeps the list of words from being closed, or None."""
    listed = {tuple(word) for word in words}
    for at, word in enumerate(words):
        if moved_letter(table, word) is not None:
            return at
        for handed in tidied_belows(table, word):
            if tuple(handed) not in listed:
                return at
    return None


def is_closed(table, words):
    """Whether the list of words is closed, so that each of them does nothing."""
    return first_unclosed(table, words) is None


def come_to(table, word, most):
    """The words that can be come to from the word, or None where they are more than the most."""
    found = [tidied(word)]
    seen = set()
    seen.add(tuple(found[0]))
    at = 0
    while at < len(found) <= most:
        handed_on = tidied_belows(table, found[at])
        for handed in handed_on:
            if tuple(handed) not in seen:
                seen.add(tuple(handed))
                found.append(handed)
        at += 1
    return found if len(found) <= most else None


def rests(table, word, most):
    """Whether the word does nothing, with what shows it: ("rests", closed), ("moves", way) or ("open", most)."""
    found = [tidied(word)]
    ways = [[]]
    seen = set()
    seen.add(tuple(found[0]))
    at = 0
    # Words are looked at in the order of the shortest ways to them, so the first one that moves is nearest.
    while at < len(found):
        if at == most:
            return ("open", most)
        moved = moved_letter(table, found[at])
        if moved is not None:
            return ("moves", ways[at] + [moved])
        handed_on = tidied_belows(table, found[at])
        for letter, handed in enumerate(handed_on):
            if tuple(handed) not in seen:
                seen.add(tuple(handed))
                found.append(handed)
                ways.append(ways[at] + [letter])
        at += 1
    return ("rests", found)


def alike(table, one, other, most):
    """Whether the two words lead each way to the same way, told as `rests` tells it."""
    return rests(table, one + contrary(other), most)
