"""Round forms of words, and how often a word must be done to do nothing."""

from boughturn.acting import led
from boughturn.belows import below
from boughturn.rings import rings, round_word
from boughturn.rules import Shears
from boughturn.steps import knots, step_orders, turning_ring, turning_steps
from boughturn.words import before, contrary

# Steps can lead on for ever to longer and longer words, twice as long with every few steps, so that as many as the
# most could never be gone through. No proof is at hand that they do so; it is taken from how much longer a word is.
MOST_GROWTH = 64
COMMON_TURNERS = 60


def first_turned(shears, word):
    """Of the cut word with a hind part put ahead, and cut, the first one, and the number of turners put behind."""
    first = word
    place = 0
    for at in range(1, len(word)):
        other = shears.cut_joint(word[at:], word[:at])
        if before(other, first):
            first = other
            place = at
    return (first, place)


def turned(shears, word):
    """The word's round form and a turner: with its contrary ahead and it behind, the word is alike to the form."""
    form = shears.cut_word(word)
    turner = []
    other, place = first_turned(shears, form)
    while place > 0:
        turner = shears.cut_word(turner + form[:place])
        form = other
        other, place = first_turned(shears, form)
    return (form, turner)


def round_form(paper, word):
    """The word, turned about to its round form by the paper."""
    return turned(Shears(paper[0]), word)[0]


def too_long(start, form):
    """Whether the form has so many turners more than the first one that the steps are taken to lead on for ever."""
    return len(form) > MOST_GROWTH * max(len(start), COMMON_TURNERS)


def stepped(table, shears, word, most):
    """The round forms to which steps lead from the word's, and their steps; None where they are more than the most."""
    found = [turned(shears, word)[0]]
    numbers = {tuple(found[0]): 0}
    rows = []
    while len(rows) < len(found):
        each = found[len(rows)]
        row = []
        for ring in rings(table, each):
            form = turned(shears, round_word(table, each, ring))[0]
            if tuple(form) not in numbers:
                numbers[tuple(form)] = len(found)
                found.append(form)
            row.append((ring[0], len(ring), numbers[tuple(form)]))
            if len(found) > most or too_long(found[0], form):
                return None
        rows.append(row)
    return (found, rows)


def order_book(found, rows, orders):
    """The book of the words, their orders and their steps."""
    book = []
    for word, order_told, row in zip(found, orders, rows):
        steps = [(letter, many, list(found[number])) for letter, many, number in row]
        book.append((list(word), order_told, steps))
    return book


def never(table, shears, found, ring):
    """What shows, by a ring of steps that turns, that no number of times will do."""
    way = []
    times = 1
    about = []
    # All along, the ring's first word done so many times is, below the way, alike to the word at hand with `about`
    # ahead of it and its contrary behind.
    for number, (letter, many, target) in ring:
        ahead = led(table, contrary(about), [letter])
        form, turner = turned(shears, below(table, found[number] * many, [letter]))
        about = shears.cut_word(below(table, about, ahead) + turner)
        way = way + ahead
        times *= many
    return ("never", list(found[ring[0][0]]), way, times, about)


def order(table, paper, word, most):
    """The word's order with a book, what shows that it has none, or that steps lead to more words than the most."""
    shears = Shears(paper[0])
    told = stepped(table, shears, word, most)
    if told is None:
        return ("open", most)
    found, rows = told
    knotted = knots(rows)
    turning = turning_steps(rows, knotted)
    if turning:
        return never(table, shears, found, turning_ring(rows, turning))
    orders = step_orders(rows, knotted)
    return ("order", orders[0], order_book(found, rows, orders))
