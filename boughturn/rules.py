"""Rules, and how words are cut by them."""

from boughturn.tables import is_pair
from boughturn.words import is_word, rank

MOST_TURNERS = 6


def is_rule(table, thing):
    """Whether the thing, any thing, is a rule for words of the table."""
    if not is_pair(thing) or not is_word(table, thing[0]) or not is_word(table, thing[1]):
        return False
    left, right = thing
    if len(left) > MOST_TURNERS:
        return False
    if len(left) == 1 and len(right) == 1:
        return rank(right[0]) < rank(left[0])
    return len(right) < len(left)


def by_second(rules):
    """Of rules whose lefts begin alike, backward ones, those that can stand where the second turner is so.

    By 0 those are told that can stand whatever the second turner is.
    """
    told = {0: [rule for rule in rules if len(rule[0]) == 1]}
    for backward, put in rules:
        if len(backward) > 1 and backward[-2] not in told:
            second = backward[-2]
            told[second] = [rule for rule in rules if len(rule[0]) == 1 or rule[0][-2] == second]
    return told


class Shears:
    """Cuts words by a list of rules, looked through once.

    What is not looked at yet stands backward in a list of its own, its first turner last, so that turners are taken
    from it and put back quickly, however long the word is. Rules are kept backward, too.
    """

    def __init__(self, rules):
        self.longest = 1
        by_first = {}
        for left, right in rules:
            self.longest = max(self.longest, len(left))
            by_first.setdefault(left[0], []).append((left[::-1], right[::-1]))
        self.by_first = {first: by_second(by_first[first]) for first in by_first}

    def rule_for(self, rest):
        """The first rule of which the left stands at the front of what is not looked at, or None."""
        seconds = self.by_first.get(rest[-1])
        if seconds is None:
            return None
        rules = seconds.get(rest[-2] if len(rest) > 1 else 0, seconds[0])
        for rule in rules:
            if rest[-len(rule[0]):] == rule[0]:
                return rule
        return None

    def put_back(self, kept, rest):
        """Puts back so many turners that no left is passed over that stands now and did not before."""
        many = min(self.longest - 1, len(kept))
        for place in range(many):
            rest.append(kept.pop())

    def cut_on(self, kept, rest, enough):
        """Goes on as long as the rest has enough turners; what was kept and what is left are changed themselves.

        Told is how many turners, of those kept at first, were never put back; it is below 0 where fewer could be put
        back than would have been.
        """
        untouched = len(kept)
        while len(rest) >= enough:
            rule = self.rule_for(rest)
            if rule is None:
                kept.append(rest.pop())
            else:
                backward, put = rule
                rest[-len(backward):] = put
                untouched = min(untouched, len(kept) - self.longest + 1)
                self.put_back(kept, rest)
        return untouched

    def cut_word(self, word):
        """The word, cut."""
        kept = []
        self.cut_on(kept, word[::-1], 1)
        return kept

    def is_stiff(self, word):
        """Whether no left stands in the word."""
        return self.cut_word(word) == word


def cut(rules, word):
    """The word, cut by the rules."""
    return Shears(rules).cut_word(word)
