"""Words of turners: what they are, their contraries, and their order."""

from boughturn.tables import is_turner


def is_word(table, thing):
    """Whether the thing, any thing, is a word of the table."""
    if not isinstance(thing, list):
        return False
    many = len(table[1])
    return all(is_turner(many, turner) and turner != 0 for turner in thing)


def contrary(word):
    """The word that undoes the word."""
    return [-turner for turner in reversed(word)]


def tidied(word):
    """The word without turners that stand beside their contraries."""
    kept = []
    for turner in word:
        # What is kept holds no pair, so a new one can only arise at its end.
        if kept and kept[-1] == -turner:
            kept.pop()
        else:
            kept.append(turner)
    return kept


def rank(turner):
    """The turner's rank among the turners."""
    return 2 * turner if turner >= 0 else 1 - 2 * turner


def rising_turners(table):
    """The turners of the table but 0, by rank."""
    return [turner for k in range(1, len(table[1]) + 1) for turner in (k, -k)]


def before(one, other):
    """Whether the one word comes before the other."""
    if len(one) != len(other):
        return len(one) < len(other)
    if one == other:
        return False
    for mine, others in zip(one, other):
        if mine != others:
            return rank(mine) < rank(others)
    return False
