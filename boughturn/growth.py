"""Whether steps lead on to more and more words, shown without going through them.

Each row's turners are counted in a word, contraries less. A rule changes the counts by what it takes out and puts in;
by sums that no rule changes, at no step, words are told apart. Where a word leads all letters round in one ring, its
round word has the parts of each of its turners, one at each letter: so its counts are known from the word's.
"""

from boughturn.signs import sign_of
from boughturn.steps import common_divisor

# So often done, any turning of at most six letters does nothing.
MOST_TURNS = 60


def counts_of(table, word):
    """Row by row, how often the row's turner is in the word, less how often its contrary is."""
    told = [0 for row in table[1]]
    for turner in word:
        if turner > 0:
            told[turner - 1] += 1
        elif turner < 0:
            told[-turner - 1] -= 1
    return told


def product(one, other):
    """The sum of what is at the same places, one times the other."""
    return sum([mine * others for mine, others in zip(one, other)])


def lowest_terms(gauge):
    """The numbers, divided by all that they can be divided by."""
    shared = 0
    for number in gauge:
        shared = common_divisor(shared, number)
    return [number // shared for number in gauge]


def blind_to(gauges, counts):
    """Gauges of which the sums of these make up all that show nothing of the counts."""
    shown = [product(gauge, counts) for gauge in gauges]
    at = [place for place, number in enumerate(shown) if number != 0][:1]
    if not at:
        return gauges
    base, most = gauges[at[0]], shown[at[0]]
    told = []
    for gauge, number in zip(gauges, shown):
        if gauge != base:
            told.append(lowest_terms([most * mine - number * others for mine, others in zip(gauge, base)]))
    return told


def turned_by(one, other):
    """What the one turning of letters and then the other one make of each letter."""
    return tuple([other[letter] for letter in one])


def turned_back(one):
    """The turning of letters that undoes the one."""
    return tuple([one.index(letter) for letter in range(len(one))])


def all_turnings(letters, some):
    """All turnings of letters that come of doing some, one behind the other."""
    told = [tuple(range(letters))]
    at = 0
    while at < len(told):
        longer = [turned_by(told[at], each) for each in some]
        for turning in longer:
            if turning not in told:
                told.append(turning)
        at += 1
    return told


def shifts_of(table):
    """The turnings of letters by which words of the same counts can be told apart, at the most."""
    letters, rows = table
    turnings = all_turnings(letters, [row[0] for row in rows])
    shifts = []
    for one in turnings:
        for other in turnings:
            there = turned_by(one, other)
            back = turned_by(turned_back(one), turned_back(other))
            shifts.append(turned_by(there, back))
    return all_turnings(letters, sorted(set(shifts)))


def ring_size(turning, letter):
    """How many letters are led round in the ring of this letter."""
    reached = turning[letter]
    many = 1
    while reached != letter:
        reached = turning[reached]
        many += 1
    return many


def herds(table):
    """The lists of letters of which words lead each to each other one, but those of one letter."""
    letters, rows = table
    turnings = all_turnings(letters, [row[0] for row in rows])
    told = []
    for letter in range(letters):
        herd = sorted({turning[letter] for turning in turnings})
        if herd[0] == letter and len(herd) > 1:
            told.append(herd)
    return told


class Growth:
    """Shows of words of one table, cut by rules that are let by for it, that steps lead from them to many words.

    It looks at steps by rings of all letters of a herd, which words lead to one another and to no other letter.
    """

    def __init__(self, table, rules, herd):
        self.table = table
        self.herd = herd
        self.sums = [counts_of(table, [row[1][letter] for letter in herd]) for row in table[1]]
        self.shifts = shifts_of(table)
        size = len(table[1])
        self.gauges = [[int(place == at) for place in range(size)] for at in range(size)]
        for left, right in rules:
            self.look_at_rule(left, right)

    def look_at_rule(self, left, right):
        """Leaves out what the rule, or what comes of it by steps, changes."""
        taken, put = counts_of(self.table, left), counts_of(self.table, right)
        counts = [mine - others for mine, others in zip(taken, put)]
        # As many steps as there are rows are enough: what comes then is a sum of what came before.
        for step in self.sums:
            self.gauges = blind_to(self.gauges, counts)
            counts = self.next_counts(counts)

    def next_counts(self, counts):
        """The counts of the round word, where all letters of the herd are one ring of a word of these counts."""
        told = [0 for row in self.sums]
        for many, sums in zip(counts, self.sums):
            told = [number + many * each for number, each in zip(told, sums)]
        return told

    def leads_round(self, counts):
        """Whether all letters of the herd are one ring of each word of these counts."""
        turning = tuple(range(self.table[0]))
        for many, row in zip(counts, self.table[1]):
            for turn in range(many % MOST_TURNS):
                turning = turned_by(turning, row[0])
        sizes = [ring_size(turned_by(turning, shift), self.herd[0]) for shift in self.shifts]
        return min(sizes) == len(self.herd)

    def counts_in(self, text):
        """The counts of the word of this text."""
        many = len(self.sums)
        return [text.count(sign_of(row)) - text.count(sign_of(-row)) for row in range(1, many + 1)]

    def leads_to_more(self, root, times, most):
        """Whether steps are shown to lead from the root, a text, done so many times, to more than the most words."""
        counts = [times * number for number in self.counts_in(root)]
        seen = set()
        while len(seen) <= most:
            key = tuple([product(gauge, counts) for gauge in self.gauges])
            if key in seen or not self.leads_round(counts):
                return False
            seen.add(key)
            counts = self.next_counts(counts)
        return True
