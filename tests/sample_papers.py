"""Tables with papers that are let by."""

from tests.oracle import come_to, cut_word, does_nothing, rank_key, rising_turners
from tests.samples import COUNT_THREE, COUNT_TWO, FIRST, NO_ROWS, TWIN_FOUR, TWIN_THREE

# Two turners of three letters; each word of them has an order, a power of three.
THREES = (3, (((1, 2, 0), (0, 0, 0)), ((0, 1, 2), (1, -1, 2))))

# Two turners without orders, which make ways grow together slowly.
BASIL = (2, (((1, 0), (0, 2)), ((0, 1), (0, 1))))

# Steps in a plane: all words can be put in any order, and steps lead from them on for ever to longer words.
DRAGON = (2, (((1, 0), (2, 0)), ((1, 0), (-3, -1)), ((0, 1), (1, 1))))

# Adding one every other letter, so that a ring of steps has steps of two kinds.
EVERY_OTHER = (2, (((1, 0), (0, 2)), ((0, 1), (1, 1))))

# Turners that hand on nothing from the third letter on: a ring of two, one of three, and what hands these on.
SHALLOW_THREE = (3, (
    ((1, 0, 2), (0, 0, 0)), ((1, 2, 0), (0, 0, 0)), ((0, 1, 2), (1, 2, 0)), ((1, 0, 2), (2, 0, 1)),
))
SHALLOW_FOUR = (4, (((1, 2, 3, 0), (2, 0, 0, 0)), ((1, 2, 0, 3), (0, 0, 0, 0)), ((1, 0, 3, 2), (0, -2, 0, 0))))


def shown_by(table, rules):
    """A closed list that shows the rules."""
    closed = {()}
    for left, right in rules:
        closed |= come_to(table, left + [-turner for turner in right[::-1]])
    return sorted((list(word) for word in closed), key=rank_key)


def all_rules(table, most):
    """A rule for each word of at most so many turners that is alike to one before it, where no other cuts it."""
    rules = []
    kept = [[]]
    level = [[]]
    for many in range(1, most + 1):
        longer = [word + [turner] for word in level for turner in rising_turners(table)]
        level = []
        for word in longer:
            ahead = [other for other in kept if len(other) < many or many == 1]
            alike = [other for other in ahead if does_nothing(table, word + [-turner for turner in other[::-1]])]
            if cut_word(rules, word) == word and not alike:
                level.append(word)
                kept.append(word)
            elif cut_word(rules, word) == word:
                rules.append((word, alike[0]))
    return rules


def made_paper(table, most, length, depth):
    """A paper with all rules of lefts of at most so many turners."""
    rules = all_rules(table, most)
    return rules, shown_by(table, rules), length, depth


FIRST_PAPER = made_paper(FIRST, 2, 2, 1)

PAPERS = (
    (FIRST, FIRST_PAPER),
    (FIRST, made_paper(FIRST, 2, 4, 3)),
    (FIRST, made_paper(FIRST, 2, 3, 2)),
    (COUNT_TWO, made_paper(COUNT_TWO, 2, 2, 1)),
    (COUNT_TWO, made_paper(COUNT_TWO, 2, 4, 3)),
    (COUNT_THREE, made_paper(COUNT_THREE, 2, 2, 1)),
    (THREES, made_paper(THREES, 2, 2, 1)),
    (THREES, made_paper(THREES, 2, 3, 2)),
    (BASIL, made_paper(BASIL, 3, 3, 2)),
    (DRAGON, made_paper(DRAGON, 2, 2, 3)),
    (EVERY_OTHER, made_paper(EVERY_OTHER, 3, 3, 2)),
    (TWIN_THREE, made_paper(TWIN_THREE, 2, 2, 1)),
    (TWIN_FOUR, made_paper(TWIN_FOUR, 2, 2, 2)),
    (SHALLOW_THREE, ([], [], 2, 2)),
    (SHALLOW_FOUR, ([], [[]], 3, 2)),
    (NO_ROWS, ((), (), 2, 1)),
)


def paper_of(table):
    """The first paper for the table."""
    return [paper for other, paper in PAPERS if other == table][0]
