"""How words lead ways."""

from boughturn.turners import hands_on, makes


def turner_led(table, turner, way):
    """The way to which the turner leads the way."""
    reached = []
    for letter in way:
        reached.append(makes(table, turner, letter))
        turner = hands_on(table, turner, letter)
    return reached


def led(table, word, way):
    """The way to which the word leads the way."""
    reached = list(way)
    for turner in word:
        reached = turner_led(table, turner, reached)
    return reached


def ways_of(table, many):
    """All ways of so many letters, in their order."""
    ways = [[]]
    for place in range(many):
        ways = [way + [letter] for way in ways for letter in range(table[0])]
    return ways
