"""Steps between words: which of them lie on rings of steps, and what orders they give.

Words are told by their numbers here: row by row, the steps from the word of that number are tuples (letter, many,
number), the last one that of the word to which the step leads.
"""


def left_order(rows):
    """The numbers of the words in the order in which a walk along all steps, depth first, leaves them."""
    told = []
    seen = set()
    for start in range(len(rows)):
        # A list in the stead of calls within calls, which might go too deep.
        path = [(start, 0)] if start not in seen else []
        seen.add(start)
        while path:
            number, at = path.pop()
            if at == len(rows[number]):
                told.append(number)
            else:
                path.append((number, at + 1))
                target = rows[number][at][2]
                if target not in seen:
                    seen.add(target)
                    path.append((target, 0))
    return told


def sources(rows):
    """Word by word, the numbers of the words from which a step leads to it."""
    told = [[] for row in rows]
    for number, row in enumerate(rows):
        for letter, many, target in row:
            told[target].append(number)
    return told


def knots(rows):
    """Word by word, the number of its knot: the same one just where steps lead from each word to the other.

    A step leads to a word of the same knot or of one with a higher number.
    """
    back = sources(rows)
    told = {}
    knot = 0
    # Of words that have no knot yet the one left last is not led to from outside of its own.
    for start in reversed(left_order(rows)):
        ahead = [start]
        while ahead:
            number = ahead.pop()
            if number not in told:
                told[number] = knot
                ahead.extend(back[number])
        knot += 1
    return [told[number] for number in range(len(rows))]


def turning_steps(rows, knotted):
    """The steps, as tuples (number, step), that lie on a ring of steps and have a many above 1."""
    return [
        (number, step) for number, row in enumerate(rows) for step in row
        if step[1] > 1 and knotted[step[2]] == knotted[number]
    ]


def common_divisor(one, other):
    """The greatest number by which both can be divided."""
    while other:
        one, other = other, one % other
    return one


def common_multiple(one, other):
    """The least number that is a multiple of both."""
    return one // common_divisor(one, other) * other


def step_orders(rows, knotted):
    """Word by word, the order that the steps from it give, where none that turns lies on a ring."""
    by_knot = [1 for row in rows]
    # Steps lead to higher knots, so from the highest one down what they lead to is known.
    for number in sorted(range(len(rows)), key=lambda each: -knotted[each]):
        knot = knotted[number]
        for letter, many, target in rows[number]:
            if knotted[target] != knot:
                by_knot[knot] = common_multiple(by_knot[knot], many * by_knot[knotted[target]])
    return [by_knot[knot] for knot in knotted]


def steps_back(path_to, number):
    """The steps that lead to the word, as tuples (number, step), by what is known of the last step to each."""
    told = []
    while path_to[number] is not None:
        told.append(path_to[number])
        number = path_to[number][0]
    return list(reversed(told))


def steps_between(rows, start, end):
    """A shortest row of steps from one word to another to which steps lead, as tuples (number, step)."""
    path_to = {start: None}
    ahead = [start]
    at = 0
    while end not in path_to:
        number = ahead[at]
        for step in rows[number]:
            if step[2] not in path_to:
                path_to[step[2]] = (number, step)
                ahead.append(step[2])
        at += 1
    return steps_back(path_to, end)


def times_of(path):
    """The product of many along the steps."""
    times = 1
    for number, step in path:
        times *= step[1]
    return times


def turning_ring(rows, turning):
    """A shortest ring of steps for each of these steps, which it begins with; of them the one of least times."""
    told = []
    for number, step in turning:
        told.append([(number, step)] + steps_between(rows, step[2], number))
    return min(told, key=times_of)
