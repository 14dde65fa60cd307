"""The first table, with a paper and a ladder for it: its turners are a, b, c and d."""

# In each rule a turner becomes its own contrary, two alike ones go out, or two of b, c and d become the third one.
RULES = (
    ((-1,), (1,)), ((-2,), (2,)), ((-3,), (3,)), ((-4,), (4,)),
    ((1, 1), ()), ((2, 2), ()), ((3, 3), ()), ((4, 4), ()),
    ((2, 3), (4,)), ((2, 4), (3,)), ((3, 2), (4,)), ((3, 4), (2,)), ((4, 2), (3,)), ((4, 3), (2,)),
)
CLOSED = (
    (), (1, 1), (-1, -1), (2, 2), (-2, -2), (3, 3), (-3, -3), (4, 4), (-4, -4),
    (2, 3, -4), (2, 4, -3), (3, 2, -4), (3, 4, -2), (4, 2, -3), (4, 3, -2),
)


def first_table():
    """The first table."""
    return (2, (((1, 0), (0, 0)), ((0, 1), (1, 3)), ((0, 1), (1, 4)), ((0, 1), (0, 2))))


def first_paper():
    """A paper for the first table."""
    rules = [(list(left), list(right)) for left, right in RULES]
    return (rules, [list(word) for word in CLOSED], 2, 1)


def first_ladder():
    """A ladder of the first table."""
    # Below 1 the turner d is b, b is c, and c is d; b is a below 0, from where a leads it to 1.
    return (1, [[1, 2, 1], [4], [2], [3]], [[1], []])
