"""The checker of books of orders."""

from boughturn.joints import turned
from boughturn.signs import pieces_of, text_of, word_of
from boughturn.steps import knots, step_orders, turning_steps
from boughturn.strides import Strider
from boughturn.tables import is_triple, is_whole
from boughturn.words import is_word


def is_step(table, thing):
    """Whether the thing is a tuple of two whole numbers and a word."""
    return is_triple(thing) and is_whole(thing[0]) and is_whole(thing[1]) and is_word(table, thing[2])


def is_entry(table, thing):
    """Whether the thing is a tuple of a word, a whole number and a list of steps."""
    if not is_triple(thing) or not is_word(table, thing[0]) or not is_whole(thing[1]):
        return False
    return isinstance(thing[2], list) and all(is_step(table, step) for step in thing[2])


def form_of(strider, pieces):
    """The round form of the pieces, one behind the other."""
    return word_of(turned(strider.press, pieces)[0])


def has_its_steps(strider, word, steps):
    """Whether the word is in round form, and the steps are those of its rings."""
    text = text_of(word)
    if form_of(strider, pieces_of(text)) != word:
        return False
    ringed = strider.round_words(text, 1)
    if len(steps) != len(ringed):
        return False
    for (letter, many, pieces, times), step in zip(ringed, steps):
        if step != (letter, many, form_of(strider, pieces * times)):
            return False
    return True


def numbered_rows(book):
    """The steps of the book with the words' numbers in the words' stead, or None where a word isn't in the book."""
    numbers = {tuple(word): number for number, (word, order, steps) in enumerate(book)}
    rows = []
    for word, order, steps in book:
        if not all(tuple(target) in numbers for letter, many, target in steps):
            return None
        rows.append([(letter, many, numbers[tuple(target)]) for letter, many, target in steps])
    return rows


def has_its_orders(book):
    """Whether each step leads within the book, no ring of steps turns, and the orders are those that steps give."""
    rows = numbered_rows(book)
    if rows is None:
        return False
    knotted = knots(rows)
    if turning_steps(rows, knotted):
        return False
    return step_orders(rows, knotted) == [order for word, order, steps in book]


def is_order_book(table, paper, word, thing):
    """Whether the thing, any thing, is a book of orders of the word by the paper."""
    if not isinstance(thing, list) or not thing or not all(is_entry(table, entry) for entry in thing):
        return False
    strider = Strider(table, paper[0])
    if len({tuple(entry[0]) for entry in thing}) != len(thing) or thing[0][0] != form_of(strider, [text_of(word)]):
        return False
    if not all(has_its_steps(strider, each, steps) for each, number, steps in thing):
        return False
    return has_its_orders(thing)
