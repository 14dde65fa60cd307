"""What the document's words say, gone through by brute force, beside the program and without it."""

import itertools


def all_words(turners, most):
    """All words of these turners and at most so many of them."""
    for many in range(most + 1):
        for word in itertools.product(turners, repeat=many):
            yield list(word)


def all_ways(table, many):
    """All ways of so many letters, in their order."""
    return [list(way) for way in itertools.product(range(table[0]), repeat=many)]


def turner_leads(table, turner, way):
    """The way to which a turner leads the way; of a contrary by looking for the way that is led here."""
    if turner == 0 or not way:
        return list(way)
    if turner < 0:
        return [other for other in all_ways(table, len(way)) if turner_leads(table, -turner, other) == way][0]
    swaps, parts = table[1][turner - 1]
    return [swaps[way[0]]] + turner_leads(table, parts[way[0]], way[1:])


def word_leads(table, word, way):
    for turner in word:
        way = turner_leads(table, turner, way)
    return list(way)


def rows_with_contraries(table):
    """Turner by turner and letter by letter, what is made and what is handed on."""
    told = {}
    for letter in range(table[0]):
        told[0, letter] = (letter, 0)
        for k, (swaps, parts) in enumerate(table[1], start=1):
            told[k, letter] = (swaps[letter], parts[letter])
            told[-k, swaps[letter]] = (letter, -parts[letter])
    return told


def leads_by_rows(table, word, way):
    """As word_leads, letter by letter, for ways too long for going through all."""
    told = rows_with_contraries(table)
    for turner in word:
        reached = []
        for letter in way:
            made, turner = told[turner, letter]
            reached.append(made)
        way = reached
    return list(way)


def word_below(table, word, letter):
    told = rows_with_contraries(table)
    handed = []
    for turner in word:
        letter, part = told[turner, letter]
        handed += [part] if part else []
    return handed


def tidy(word):
    """The word, tidied by taking out the first pair over and over."""
    for at in range(len(word) - 1):
        if word[at] + word[at + 1] == 0:
            return tidy(word[:at] + word[at + 2:])
    return list(word)


def come_to(table, word):
    """All words that can be come to from the word, as a set of tuples."""
    reached = set()
    ahead = [tidy(word)]
    while ahead:
        other = ahead.pop()
        if tuple(other) not in reached:
            reached.add(tuple(other))
            ahead += [tidy(word_below(table, other, letter)) for letter in range(table[0])]
    return reached


def commutator(one, other):
    back = [-turner for turner in one[::-1]]
    other_back = [-turner for turner in other[::-1]]
    return one + other + back + other_back


def makes_letters(table, word):
    return [word_leads(table, word, [letter])[0] for letter in range(table[0])]


def does_nothing(table, word):
    """Whether no word that can be come to makes of a letter another one."""
    still = list(range(table[0]))
    return all(makes_letters(table, list(other)) == still for other in come_to(table, word))


def rank_key(word):
    """What puts words in their order."""
    return len(word), [2 * abs(turner) + (turner < 0) for turner in word]


def rising_turners(table):
    """The turners of a table but 0, by rank."""
    return [turner for k in range(1, len(table[1]) + 1) for turner in (k, -k)]


def cut_word(rules, word):
    """The word, cut by beginning anew at its front each time."""
    for at in range(len(word)):
        for left, right in rules:
            if word[at:at + len(left)] == left:
                return cut_word(rules, word[:at] + right + word[at + len(left):])
    return list(word)


def stiff_words(table, rules, length):
    """All words of at most so many turners in which no left stands, in their order, gone through one and all."""
    words = sorted(all_words(rising_turners(table), length), key=rank_key)
    lefts = {tuple(left) for left, right in rules}
    parts = [
        {tuple(word[at:end]) for at in range(len(word)) for end in range(at + 1, len(word) + 1)} for word in words
    ]
    return [word for word, within in zip(words, parts) if not within & lefts]


def words_below_way(table, word, way):
    for letter in way:
        word = word_below(table, word, letter)
    return word


def stiff_fault(table, rules, length, depth):
    """The number of the first stiff word at fault, or None."""
    words = stiff_words(table, rules, length)
    if len(words) > 500:
        return 0
    for at, word in enumerate(words):
        if len(word) < length:
            if len(come_to(table, word)) > 200:
                return at
        elif any(len(cut_word(rules, words_below_way(table, word, way))) >= length for way in all_ways(table, depth)):
            return at
    return None


def shown_fault(table, rules, closed):
    """Where and at of the first fault of a list that isn't closed, or of rules that it doesn't show, or None."""
    for at, word in enumerate(closed):
        handed = [tidy(word_below(table, word, letter)) for letter in range(table[0])]
        if makes_letters(table, word) != list(range(table[0])) or any(other not in closed for other in handed):
            return "closed", at
    for at, (left, right) in enumerate(rules):
        if tidy(left + [-turner for turner in right[::-1]]) not in closed:
            return "rule", at
    return None


def paper_fault(table, paper):
    """Where and at of the first fault of a paper of which the kinds are right, or None."""
    rules, closed, length, depth = paper
    fault = shown_fault(table, rules, list(closed))
    if fault is None:
        at = stiff_fault(table, rules, length, depth)
        fault = None if at is None else ("stiff", at)
    return fault


def go_down(table, paper, word):
    """Way by way, what the word is below it by the paper."""
    rules, closed, length, depth = paper
    word = cut_word(rules, word)
    told = []
    for way in all_ways(table, depth):
        joined = []
        place = way
        for start in range(0, len(word), length):
            piece = word[start:start + length]
            joined += cut_word(rules, words_below_way(table, piece, place))
            place = leads_by_rows(table, piece, place)
        told.append(cut_word(rules, joined))
    return told


def rings_of(table, word):
    """The rings of a word, by going round from each letter."""
    made = makes_letters(table, word)
    rounds = []
    for letter in range(table[0]):
        ring = [letter]
        while made[ring[-1]] != letter:
            ring.append(made[ring[-1]])
        rounds.append(ring)
    return [ring for ring in rounds if ring[0] == min(ring)]


def round_form(rules, word):
    """The word, turned about to its round form."""
    word = cut_word(rules, word)
    while True:
        first = min((cut_word(rules, word[at:] + word[:at]) for at in range(len(word) + 1)), key=rank_key)
        if first == word:
            return word
        word = first


def steps_of(table, rules, word):
    """The steps of a word in round form."""
    told = []
    for ring in rings_of(table, word):
        handed = [turner for letter in ring for turner in word_below(table, word, letter)]
        told.append((ring[0], len(ring), round_form(rules, handed)))
    return told


def stepped_to(table, rules, word, most):
    """The words to which steps lead from the word's round form, it being one, until they are more than the most."""
    found = [round_form(rules, word)]
    at = 0
    while at < len(found) <= most:
        for letter, many, target in steps_of(table, rules, found[at]):
            if target not in found:
                found.append(target)
        at += 1
    return found
