"""Steps from words in round form, which are told by a root and how many times it is done."""

from boughturn.growth import MOST_TURNS, Growth, herds
from boughturn.joints import turned
from boughturn.powers import root_of, times_form
from boughturn.rings import rings_of
from boughturn.rules import Shears
from boughturn.turners import hands_on, makes
from boughturn.words import rising_turners

# A word done more often is not written out, where its round form can be told without; that is about as much work as
# doing it so many times.
MOST_WRITTEN = 5
# So many turners are cut at the most, in all: with more of them no end could be waited for.
MOST_CUT = 30000000
# From a word of so many turners on it is asked whether more and more words can be shown to come, each time that the
# words have become twice as long.
FIRST_ASKED = 32


def moves_of(table):
    """Letter by letter and turner by turner, the letter that is made and the turner that is handed on."""
    told = []
    for letter in range(table[0]):
        told.append({turner: (makes(table, turner, letter), hands_on(table, turner, letter))
                     for turner in rising_turners(table)})
    return told


class Strider:
    """Steps from word to word by one table and rules, and keeps account of the turners that it cuts."""

    def __init__(self, table, rules):
        self.shears = Shears(rules)
        self.moves = moves_of(table)
        self.many_cut = 0

    def passed(self, word, letter):
        """The letter that the word makes of the letter, and the word below the letter."""
        moves = self.moves
        handed = []
        for turner in word:
            letter, part = moves[letter][turner]
            if part != 0:
                handed.append(part)
        return (letter, handed)

    def round_words(self, root, times):
        """Ring by ring of the root, done so many times, tuples (letter, many, word, times).

        The round word is the word told, done so many times.
        """
        passes = [self.passed(root, letter) for letter in range(len(self.moves))]
        made = list(range(len(passes)))
        for turn in range(times % MOST_TURNS):
            made = [passes[letter][0] for letter in made]
        once = {}
        for ring in rings_of([letter for letter, handed in passes]):
            for at, letter in enumerate(ring):
                once[letter] = ring[at:] + ring[:at]
        told = []
        for ring in rings_of(made):
            round_once = once[ring[0]]
            word = [turner for letter in round_once for turner in passes[letter][1]]
            told.append((ring[0], len(ring), word, times * len(ring) // len(round_once)))
        return told

    def can_cut(self, many):
        """Whether so many turners more may be cut; then they are taken into account."""
        if self.many_cut + many > MOST_CUT:
            return False
        self.many_cut += many
        return True

    def form_of(self, word, times):
        """The root and the times of the round form of the word, done so many times; None where that is too much."""
        if times > MOST_WRITTEN and self.can_cut(MOST_WRITTEN * len(word)):
            told = times_form(self.shears, word, times)
            if told is not None:
                return told
        if not self.can_cut(times * len(word)):
            return None
        return root_of(turned(self.shears, word * times)[0])


class Walk:
    """The words to which steps lead from a word, as roots and times, and their steps.

    It goes on with the word of the shortest root: so the most words are come to before any gets long.
    """

    def __init__(self, table, rules, word, most):
        self.table = table
        self.rules = rules
        self.strider = Strider(table, rules)
        self.most = most
        self.found = []
        self.numbers = {}
        self.rows = []
        self.waiting = []
        self.growths = None
        self.asked = FIRST_ASKED
        # Whether steps are known to lead to more than the most words, and whether some steps were too much to go.
        self.has_more = False
        self.is_cut_off = False
        self.number_of(root_of(turned(self.strider.shears, word)[0]))
        while self.waiting and not self.has_more:
            self.go_on()

    def number_of(self, form):
        """The number of the word, which is taken in where it is new."""
        root, times = form
        key = (tuple(root), times)
        if key not in self.numbers:
            self.numbers[key] = len(self.found)
            self.waiting.append(len(self.found))
            self.found.append(key)
            self.rows.append([])
            self.has_more = len(self.found) > self.most
        return self.numbers[key]

    def go_on(self):
        """Goes the steps from the waiting word of the shortest root."""
        number = min(self.waiting, key=lambda each: len(self.found[each][0]))
        self.waiting.remove(number)
        root, times = self.found[number]
        self.ask_growth(root, times)
        if not self.strider.can_cut(len(root)):
            self.is_cut_off = True
            return
        row = []
        for letter, many, word, often in self.strider.round_words(root, times):
            form = self.strider.form_of(word, often)
            if form is None:
                self.is_cut_off = True
            elif not self.has_more:
                row.append((letter, many, self.number_of(form)))
        self.rows[number] = row

    def ask_growth(self, root, times):
        """Asks whether it can be shown that steps lead to more than the most words."""
        if len(root) * times >= self.asked:
            self.asked = 2 * len(root) * times
            if self.growths is None:
                self.growths = [Growth(self.table, self.rules, herd) for herd in herds(self.table)]
            self.has_more = any([growth.leads_to_more(root, times, self.most) for growth in self.growths])

    def word_at(self, number):
        """The word of this number, written out."""
        root, times = self.found[number]
        return list(root) * times
