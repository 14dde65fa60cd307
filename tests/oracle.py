"""What the document's words say, gone through by brute force, beside the program and without it."""

import itertools


def all_words(turners, most):
    """All words of these turners and at most so many of them."""
    for many in range(most + 1):
        for word in itertools.product(turners, repeat=many):
            yield list(word)


def all_ways(table, many):
    """All ways of so many letters, in their order."""
    return [list(way) for way in itertools.product(range(table[0]), repeat=many)]


def turner_leads(table, turner, way):
    """The way to which a turner leads the way; of a contrary by looking for the way that is led here."""
    if turner == 0 or not way:
        return list(way)
    if turner < 0:
        return [other for other in all_ways(table, len(way)) if turner_leads(table, -turner, other) == way][0]
    swaps, parts = table[1][turner - 1]
    return [swaps[way[0]]] + turner_leads(table, parts[way[0]], way[1:])


def word_leads(table, word, way):
    for turner in word:
        way = turner_leads(table, turner, way)
    return list(way)


def rows_with_contraries(table):
    """Turner by turner and letter by letter, what is made and what is handed on."""
    told = {}
    for letter in range(table[0]):
        told[0, letter] = (letter, 0)
        for k, (swaps, parts) in enumerate(table[1], start=1):
            told[k, letter] = (swaps[letter], parts[letter])
            told[-k, swaps[letter]] = (letter, -parts[letter])
    return told


def word_below(table, word, letter):
    told = rows_with_contraries(table)
    handed = []
    for turner in word:
        letter, part = told[turner, letter]
        handed += [part] if part else []
    return handed


def tidy(word):
    """The word, tidied by taking out the first pair over and over."""
    for at in range(len(word) - 1):
        if word[at] + word[at + 1] == 0:
            return tidy(word[:at] + word[at + 2:])
    return list(word)


def come_to(table, word):
    """All words that can be come to from the word, as a set of tuples."""
    reached = set()
    ahead = [tidy(word)]
    while ahead:
        other = ahead.pop()
        if tuple(other) not in reached:
            reached.add(tuple(other))
            ahead += [tidy(word_below(table, other, letter)) for letter in range(table[0])]
    return reached


def commutator(one, other):
    back = [-turner for turner in one[::-1]]
    other_back = [-turner for turner in other[::-1]]
    return one + other + back + other_back
