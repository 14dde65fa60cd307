"""Which turners of a table are alike, and the least table that does the same."""

from boughturn.turners import hands_on, makes


def turners_of(table):
    """The turners of the table, rising."""
    many = len(table[1])
    return list(range(-many, many + 1))


def numbered(signs):
    """Turner by turner, a number for its sign: the same one just where the signs are."""
    numbers = {}
    told = {}
    for turner, sign in signs.items():
        told[turner] = numbers.setdefault(sign, len(numbers))
    return told


def parted(table, numbers):
    """The numbers anew: alike where turners make the same of each letter and hand on what has the same number."""
    signs = {}
    for turner in turners_of(table):
        signs[turner] = tuple(
            (makes(table, turner, letter), numbers[hands_on(table, turner, letter)]) for letter in range(table[0])
        )
    return numbered(signs)


def class_numbers(table):
    """Turner by turner, the number of its class."""
    numbers = {turner: 0 for turner in turners_of(table)}
    # After k rounds those are together that lead all ways of k letters alike: so a round that parts none is the last.
    while True:
        told = parted(table, numbers)
        if max(told.values()) == max(numbers.values()):
            return told
        numbers = told


def classes(table):
    """The lists of the table's turners that are alike."""
    numbers = class_numbers(table)
    told = {}
    for turner in turners_of(table):
        told.setdefault(numbers[turner], []).append(turner)
    return list(told.values())


def part_of(names, part):
    """The least table's turner for a part, by the names of the turners from 1 on."""
    if part == 0:
        return 0
    return names[part - 1] if part > 0 else -names[-part - 1]


def least(table):
    """The least table, and for each turner from 1 on the least table's first turner that is alike to it."""
    letters, rows = table
    numbers = class_numbers(table)
    kept = []
    named = {numbers[0]: 0}
    for turner, row in enumerate(rows, start=1):
        if numbers[turner] not in named:
            kept.append(row)
            named[numbers[turner]] = len(kept)
            # A turner that is alike to its own contrary keeps the name of lesser rank.
            named.setdefault(numbers[-turner], -len(kept))
    names = [named[numbers[turner]] for turner in range(1, len(rows) + 1)]
    fewer = tuple((swaps, tuple(part_of(names, part) for part in parts)) for swaps, parts in kept)
    return ((letters, fewer), names)
