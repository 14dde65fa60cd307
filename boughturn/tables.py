"""What a table of turners is."""

LEAST_LETTERS = 2
MOST_LETTERS = 4
MOST_ROWS = 8


def is_whole(thing):
    """Whether the thing is a whole number; a truth is none, though Python counts it among the ints."""
    return isinstance(thing, int) and not isinstance(thing, bool)


def is_within(low, thing, high):
    """Whether the thing is a whole number from the low to the high."""
    return is_whole(thing) and low <= thing <= high


def is_turner(many, thing):
    """Whether the thing is a turner of a table of so many rows."""
    return is_within(-many, thing, many)


def is_pair(thing):
    """Whether the thing is a tuple of two."""
    return isinstance(thing, tuple) and len(thing) == 2


def is_triple(thing):
    """Whether the thing is a tuple of three."""
    return isinstance(thing, tuple) and len(thing) == 3


def are_swaps(letters, thing):
    """Whether the thing is a tuple of all the letters, each once."""
    # Sorting must wait until all are known to be numbers: other things need not compare.
    if not isinstance(thing, tuple) or not all(is_whole(letter) for letter in thing):
        return False
    return sorted(thing) == list(range(letters))


def are_parts(letters, many, thing):
    """Whether the thing is a tuple of a turner for each letter."""
    if not isinstance(thing, tuple) or len(thing) != letters:
        return False
    return all(is_turner(many, part) for part in thing)


def is_row(letters, many, thing):
    """Whether the thing is a row of a table of so many letters and rows."""
    return is_pair(thing) and are_swaps(letters, thing[0]) and are_parts(letters, many, thing[1])


def is_table(thing):
    """Whether the thing, any thing, is a table."""
    if not is_pair(thing):
        return False
    letters, rows = thing
    if not is_within(LEAST_LETTERS, letters, MOST_LETTERS):
        return False
    if not isinstance(rows, tuple) or len(rows) > MOST_ROWS:
        return False
    return all(is_row(letters, len(rows), row) for row in rows)
