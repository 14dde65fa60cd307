"""What words do with all ways of so many letters."""

from boughturn.acting import turner_led, ways_of
from boughturn.words import rising_turners


def moves_of(table, n):
    """For each turner, by rank, a tuple of it and its turning of level n."""
    ways = ways_of(table, n)
    numbers = {tuple(way): number for number, way in enumerate(ways)}
    told = []
    for turner in rising_turners(table):
        told.append((turner, [numbers[tuple(turner_led(table, turner, way))] for way in ways]))
    return told


def turnings(table, n, most):
    """All turnings of level n, each with the first word that does it: ("all", list), or ("open", most)."""
    moves = moves_of(table, n)
    found = [(list(range(len(ways_of(table, n)))), [])]
    seen = set()
    seen.add(tuple(found[0][0]))
    at = 0
    # Words come in their order, so the first one that does a turning is met first.
    while at < len(found) <= most:
        turning, word = found[at]
        for turner, move in moves:
            further = [move[number] for number in turning]
            if tuple(further) not in seen:
                seen.add(tuple(further))
                found.append((further, word + [turner]))
        at += 1
    return ("all", found) if len(found) <= most else ("open", most)
