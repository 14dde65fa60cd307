"""Tables and things that several tests use."""

import random

# The four rows a, b, c, d of the document's first table.
FIRST = (2, (((1, 0), (0, 0)), ((0, 1), (1, 3)), ((0, 1), (1, 4)), ((0, 1), (0, 2))))

# Each row's turner counts one up, carrying to itself at the last letter.
COUNT_TWO = (2, (((1, 0), (0, 1)),))
COUNT_THREE = (3, (((1, 2, 0), (0, 0, 1)),))

# Swaps that are not their own contrary, and parts of all kinds: ahead, contrary, 0.
MIXED_THREE = (3, (((1, 2, 0), (0, -2, 1)), ((2, 0, 1), (2, 1, -1)), ((0, 2, 1), (-3, 0, 2))))
MIXED_FOUR = (4, (((1, 2, 3, 0), (2, 0, -1, 1)), ((2, 0, 3, 1), (0, -2, 1, 0))))

# Three turners of which no word but those that are tidied away does nothing.
FREE = (2, (((1, 0), (3, 2)), ((1, 0), (2, 3)), ((0, 1), (1, 1))))

# Lamps that are lit and put out, and a walk along them.
LAMPS = (2, (((1, 0), (2, 1)), ((0, 1), (2, 1))))

# Two rows each that are written unlike and do the same.
TWIN_THREE = (3, (((1, 2, 0), (0, 0, 1)), ((1, 2, 0), (0, 0, 2))))
TWIN_FOUR = (4, (((1, 2, 3, 0), (0, 0, 0, 2)), ((1, 2, 3, 0), (0, 0, 0, 1))))

NO_ROWS = (3, ())
EIGHT_ROWS = (2, tuple(((1, 0), (k, -k)) for k in range(1, 9)))

TABLES = (
    FIRST, COUNT_TWO, COUNT_THREE, MIXED_THREE, MIXED_FOUR, FREE, LAMPS, TWIN_THREE, TWIN_FOUR, NO_ROWS, EIGHT_ROWS,
)


def deep(many, inner, kind):
    """A thing so many lists or tuples deep."""
    for _ in range(many):
        inner = kind([inner])
    return inner


ODD_THINGS = (
    None, True, False, 0, 1, -1, 2, 10 ** 59, "", "table", "ab", [], (), [[]], ((),), (None,), [None],
    (2,), (2, ()) * 2, deep(10, 1, list), deep(10, None, tuple), deep(9, "a", list), (2, deep(8, (), tuple)),
)


def turners(table):
    """The turners of a table but 0."""
    many = len(table[1])
    return [turner for turner in range(-many, many + 1) if turner != 0]


def chance_words(seed, table, sizes):
    """Words by chance of so many turners each, the same ones each time."""
    chance = random.Random(seed)
    for size in sizes:
        yield [chance.choice(turners(table)) for _ in range(size)] if turners(table) else []


def lists_within(thing):
    """All lists in the thing, itself too."""
    if isinstance(thing, list):
        yield thing
    if isinstance(thing, (list, tuple)):
        for each in thing:
            yield from lists_within(each)
