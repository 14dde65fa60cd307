"""Steps from words in round form, which are texts here, told by a root and how many times it is done."""

from boughturn.growth import MOST_TURNS, Growth, herds
from boughturn.joints import turned
from boughturn.powers import root_of, times_form
from boughturn.presses import Press
from boughturn.rings import rings_of
from boughturn.signs import pieces_of, sign_of, text_of, word_of
from boughturn.turners import hands_on, makes
from boughturn.words import rising_turners

# A word done more often is not written out, where its round form can be told without.
MOST_WRITTEN = 32
# The most work, in steps gone one by one, and the most signs of all words: with more no end could be waited for.
MOST_WORK = 150000000
MOST_SIGNS = 300000000
# From a word of so many signs on it is asked whether more and more words can be shown to come, each time that the words
# have become twice as long.
FIRST_ASKED = 32
# More is not kept of what came of pieces.
MOST_KNOWN = 300000


def moves_of(table):
    """Letter by letter and sign by sign, the letter that is made and the sign of what is handed on, for 0 none."""
    told = []
    for letter in range(table[0]):
        moves = {}
        for turner in rising_turners(table):
            part = hands_on(table, turner, letter)
            moves[sign_of(turner)] = (makes(table, turner, letter), sign_of(part) if part != 0 else "")
        told.append(moves)
    return told


class Strider:
    """Steps from word to word by one table and rules."""

    def __init__(self, table, rules):
        self.press = Press(rules)
        self.moves = moves_of(table)
        self.known = {}

    def pass_signs(self, piece, letter):
        """The letter that the piece makes of the letter, and the piece below the letter."""
        self.press.work += len(piece)
        moves = self.moves
        handed = []
        for sign in piece:
            letter, part = moves[letter][sign]
            handed.append(part)
        return (letter, "".join(handed))

    def passed(self, pieces, letter):
        """The letter that the pieces make of the letter, and the pieces below the letter."""
        known = self.known
        told = []
        for piece in pieces:
            key = (piece, letter)
            if key not in known:
                if len(known) > MOST_KNOWN:
                    known.clear()
                known[key] = self.pass_signs(piece, letter)
            letter, handed = known[key]
            told.append(handed)
        self.press.work += len(pieces)
        return (letter, told)

    def round_words(self, root, times):
        """Ring by ring of the root, done so many times, tuples (letter, many, pieces, times).

        The round word is these pieces, one behind the other, done so many times.
        """
        parted = pieces_of(root)
        passes = [self.passed(parted, letter) for letter in range(len(self.moves))]
        made = list(range(len(passes)))
        for turn in range(times % MOST_TURNS):
            made = [passes[letter][0] for letter in made]
        once = {}
        for ring in rings_of([letter for letter, handed in passes]):
            for at, letter in enumerate(ring):
                once[letter] = ring[at:] + ring[:at]
        told = []
        for ring in rings_of(made):
            round_once = once[ring[0]]
            pieces = [piece for letter in round_once for piece in passes[letter][1]]
            told.append((ring[0], len(ring), pieces, times * len(ring) // len(round_once)))
        return told

    def form_of(self, pieces, times):
        """The root and the times of the round form of the pieces, done so many times; None where it is too much."""
        if times > MOST_WRITTEN:
            word = "".join(pieces)
            self.press.work += 8 * len(word)
            told = times_form(self.press, word, times)
            if told is not None:
                return told
        if self.is_too_much(times * sum([len(piece) for piece in pieces])):
            return None
        return root_of(turned(self.press, pieces * times)[0])

    def is_too_much(self, many):
        """Whether so many signs more, or what was done before, are too much work."""
        return self.press.work > MOST_WORK or many > MOST_SIGNS


class Walk:
    """The words to which steps lead from a word, as roots and times, and their steps.

    It goes on with the word of the shortest root: so the most words are come to before any gets long.
    """

    def __init__(self, table, rules, word, most):
        self.table = table
        self.rules = rules
        self.strider = Strider(table, rules)
        self.most = most
        self.found = []
        self.numbers = {}
        self.rows = []
        self.waiting = []
        self.many_signs = 0
        self.growths = None
        self.asked = FIRST_ASKED
        # Whether steps are known to lead to more than the most words, and whether some steps were too much to go.
        self.has_more = False
        self.is_cut_off = False
        self.number_of(root_of(turned(self.strider.press, [text_of(word)])[0]))
        while self.waiting and not self.has_more:
            self.go_on()

    def number_of(self, form):
        """The number of the word, which is taken in where it is new."""
        if form not in self.numbers:
            self.numbers[form] = len(self.found)
            self.waiting.append(len(self.found))
            self.found.append(form)
            self.many_signs += len(form[0])
            self.rows.append([])
            self.has_more = len(self.found) > self.most
        return self.numbers[form]

    def go_on(self):
        """Goes the steps from the waiting word of the shortest root."""
        number = min(self.waiting, key=lambda each: len(self.found[each][0]))
        self.waiting.remove(number)
        root, times = self.found[number]
        self.ask_growth(root, times)
        if self.strider.is_too_much(self.many_signs):
            self.is_cut_off = True
            return
        row = []
        for letter, many, pieces, often in self.strider.round_words(root, times):
            form = self.strider.form_of(pieces, often)
            if form is None:
                self.is_cut_off = True
            elif not self.has_more:
                row.append((letter, many, self.number_of(form)))
        self.rows[number] = row

    def ask_growth(self, root, times):
        """Asks whether it can be shown that steps lead to more than the most words."""
        if len(root) * times >= self.asked:
            self.asked = 2 * len(root) * times
            if self.growths is None:
                self.growths = [Growth(self.table, self.rules, herd) for herd in herds(self.table)]
            self.has_more = any([growth.leads_to_more(root, times, self.most) for growth in self.growths])

    def word_at(self, number):
        """The word of this number, written out."""
        root, times = self.found[number]
        return word_of(root) * times
