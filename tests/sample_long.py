"""A table, a paper and words from which steps lead to few words, some of which are very long."""

from tests.sample_papers import all_rules, shown_by

# Five turners that hand on turners of their own kind and of another, which hand on nothing: below each letter a word
# has half as many turners, but it is put together from four letters.
LONG_FOUR = (4, (
    ((0, 1, 2, 3), (0, -1, 0, -6)), ((0, 1, 2, 3), (0, 2, 0, 7)), ((0, 1, 2, 3), (5, 3, 7, 0)),
    ((0, 1, 2, 3), (5, -4, 7, -6)), ((0, 1, 2, 3), (5, 5, 7, 7)),
    ((1, 2, 3, 0), (0, 0, 0, 0)), ((2, 3, 0, 1), (0, 0, 0, 0)),
))
# All rules would be two more than a paper can have.
LONG_RULES = [rule for rule in all_rules(LONG_FOUR, 2) if rule not in (([6, -6], []), ([7, 7], []))]
LONG_PAPER = (LONG_RULES, shown_by(LONG_FOUR, LONG_RULES), 2, 1)
# Steps lead from this word to 70 words, the longest one of 57,627 turners.
LONG_WORD = [-3, -6, -3, 7, 5, 7, -4, -7]
LONG_MANY = 70
LONGEST = 57627

# Words are done twice as often, step by step, with rings of three letters; no word but those of these has such rings
# for sure, for the first turner swaps two letters.
DOUBLING = (3, (((2, 1, 0), (0, 0, 2)), ((1, 2, 0), (1, 1, 2))))
DOUBLING_RULES = [([k, -k], []) for k in (1, 2)] + [([-k, k], []) for k in (1, 2)]
DOUBLING_PAPER = (DOUBLING_RULES, [[]], 3, 2)
