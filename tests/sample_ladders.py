"""Tables with ladders that are let by."""

from tests.sample_papers import BASIL, THREES
from tests.samples import COUNT_THREE, COUNT_TWO, FIRST

COUNT_FOUR = (4, (((1, 2, 3, 0), (0, 0, 0, 1)),))

FIRST_LADDER = (1, [[1, 2, 1], [4], [2], [3]], [[1], []])

# The words are as long as they may be; a word that makes another letter has an odd number of turners.
LONG_LADDER = (0, ([1] * 4 + [1, -1] * 4,), (
    [1, -1] * 6, [1] * 6 + [-1] * 5, [1] * 2 + [-1, 1] * 5, [-1] * 6 + [1] * 5,
))

# Ladders of words of at most three turners.
SHORT = (
    (FIRST, FIRST_LADDER),
    (FIRST, (0, ([2], [1, 4, 1], [1, 2, 1], [1, 3, 1]), ([], [1]))),
    # Below the letter the last two words are not the turners, but alike to them.
    (FIRST, (1, [[1, 3, 1], [-4], [3, -4], [2, 4]], ([-1], [2, 2]))),
    (COUNT_TWO, (0, [[1, 1]], [[], [1]])),
    (COUNT_TWO, (1, ([1, 1],), [[-1], [-1, 1]])),
    (COUNT_THREE, (2, [[1, 1, 1]], ([1], [-1], []))),
    (COUNT_THREE, (1, ([1, 1, 1],), [[-1], [], [1]])),
    (THREES, (2, [[1, 2, -1], [2]], [[1], [-1], []])),
    (BASIL, (1, ([2], [1, 1]), ([1], []))),
)

# Ladders with a word of more turners.
LONG = (
    (COUNT_FOUR, (0, [[1] * 4], [[], [1], [1, 1], [-1]])),
    (COUNT_FOUR, (2, ([1] * 4,), ([1, 1], [-1], [], [1]))),
    (COUNT_FOUR, LONG_LADDER),
    (FIRST, (1, ([1, 2, 1] * 3, [4], [2], [3]), ([1] * 11, [2] * 12))),
)

LADDERS = SHORT + LONG

# Rows from the third one on do nothing, but hand on to one another; so words of them can come to many words.
STILL_100 = (2, (
    ((1, 0), (0, 0)), ((0, 1), (1, 2)), ((0, 1), (-8, 5)), ((0, 1), (-4, 6)), ((0, 1), (7, 8)), ((0, 1), (4, 3)),
    ((0, 1), (8, -7)), ((0, 1), (8, -3)),
))
STILL_101 = (2, (
    ((1, 0), (0, 0)), ((0, 1), (1, 2)), ((0, 1), (-4, -5)), ((0, 1), (6, -5)), ((0, 1), (-4, 3)), ((0, 1), (5, -8)),
    ((0, 1), (8, -8)), ((0, 1), (-3, -3)),
))


def still_ladder(word):
    """A ladder of such a table, the word being the one of its third row."""
    return 0, [[2], [1, 2, 1], word, [], [], [], [], []], [[], [1]]
