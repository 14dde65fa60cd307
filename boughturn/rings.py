"""The rings of letters that a word leads round, and its round words."""

from boughturn.belows import below, letters_of


def rings_of(made):
    """The lists of letters that are led round where these are made of the letters, each from its least letter on."""
    told = []
    seen = set()
    for start in range(len(made)):
        if start not in seen:
            ring = []
            letter = start
            while letter not in seen:
                seen.add(letter)
                ring.append(letter)
                letter = made[letter]
            told.append(ring)
    return told


def rings(table, word):
    """The lists of letters that the word leads round, each from its least letter on."""
    return rings_of(letters_of(table, word))


def round_word(table, word, ring):
    """What the word is below the letters of the ring, one behind the other."""
    return [turner for letter in ring for turner in below(table, word, [letter])]
