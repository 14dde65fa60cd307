"""Round forms of words, and how often a word must be done to do nothing."""

from boughturn.acting import led
from boughturn.belows import below
from boughturn.joints import turned
from boughturn.presses import Press
from boughturn.signs import text_of, word_of
from boughturn.steps import knots, step_orders, turning_ring, turning_steps
from boughturn.strides import Walk
from boughturn.words import contrary


def round_form(paper, word):
    """The word, turned about to its round form by the paper."""
    return word_of(turned(Press(paper[0]), [text_of(word)])[0])


def order_book(walk, orders):
    """The book of the words, their orders and their steps."""
    book = []
    for number, row in enumerate(walk.rows):
        steps = [(letter, many, walk.word_at(target)) for letter, many, target in row]
        book.append((walk.word_at(number), orders[number], steps))
    return book


def turner_at(walk, number, letter):
    """The turner by which the round word of the word of this number, for the ring of this letter, is turned about."""
    root, times = walk.found[number]
    for least, many, pieces, often in walk.strider.round_words(root, times):
        if least == letter:
            return word_of(turned(walk.strider.press, pieces * often)[1])
    return []


def never(table, walk, ring):
    """What shows, by a ring of steps that turns, that no number of times will do."""
    way = []
    times = 1
    about = []
    # All along, the ring's first word done so many times is, below the way, alike to the word at hand with `about`
    # ahead of it and its contrary behind.
    for number, (letter, many, target) in ring:
        ahead = led(table, contrary(about), [letter])
        turner = turner_at(walk, number, letter)
        about = word_of(walk.strider.press.cut_text(text_of(below(table, about, ahead) + turner)))
        way = way + ahead
        times *= many
    return ("never", walk.word_at(ring[0][0]), way, times, about)


def order(table, paper, word, most):
    """The word's order with a book, what shows that it has none, or that steps lead to more words than the most."""
    walk = Walk(table, paper[0], word, most)
    if walk.has_more:
        return ("open", most)
    knotted = knots(walk.rows)
    turning = turning_steps(walk.rows, knotted)
    if turning:
        return never(table, walk, turning_ring(walk.rows, turning))
    if walk.is_cut_off:
        return ("open", most)
    orders = step_orders(walk.rows, knotted)
    return ("order", orders[0], order_book(walk, orders))
