"""What words make of letters, and what they are below letters and ways."""

from boughturn.turners import hands_on, makes


def passed(table, word, letter):
    """The letter that the word makes of the letter, and the word below the letter."""
    handed = []
    for turner in word:
        part = hands_on(table, turner, letter)
        if part != 0:
            handed.append(part)
        letter = makes(table, turner, letter)
    return (letter, handed)


def below(table, word, way):
    """The word below the way."""
    reached = list(word)
    for letter in way:
        reached = passed(table, reached, letter)[1]
    return reached


def letters_of(table, word):
    """Letter by letter, what the word makes of it."""
    return [passed(table, word, letter)[0] for letter in range(table[0])]


def belows(table, word):
    """Letter by letter, the word below it."""
    return [passed(table, word, letter)[1] for letter in range(table[0])]
