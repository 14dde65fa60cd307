"""Rules, and how words are cut by them."""

from boughturn.tables import is_pair
from boughturn.words import is_word, rank

MOST_TURNERS = 6


def is_rule(table, thing):
    """Whether the thing, any thing, is a rule for words of the table."""
    if not is_pair(thing) or not is_word(table, thing[0]) or not is_word(table, thing[1]):
        return False
    left, right = thing
    if len(left) > MOST_TURNERS:
        return False
    if len(left) == 1 and len(right) == 1:
        return rank(right[0]) < rank(left[0])
    return len(right) < len(left)


class Shears:
    """Cuts words by a list of rules, looked through once."""

    def __init__(self, rules):
        self.longest = 1
        self.by_first = {}
        for left, right in rules:
            self.longest = max(self.longest, len(left))
            self.by_first.setdefault(left[0], []).append((list(left), list(right)))

    def rule_at(self, word, at):
        """The first rule of which the left stands at this place of the word, or None."""
        for rule in self.by_first.get(word[at], []):
            left = rule[0]
            if word[at:at + len(left)] == left:
                return rule
        return None

    def is_stiff(self, word):
        """Whether no left stands in the word."""
        return all(self.rule_at(word, at) is None for at in range(len(word)))

    def shorten(self, word, at, clean):
        """Cuts the list itself, of which it is known that no left begins ahead of `at`, nor from `clean` on."""
        while at < clean:
            rule = self.rule_at(word, at)
            if rule is None:
                at += 1
            else:
                left, right = rule
                end = at + len(left)
                word[at:end] = right
                clean = max(clean, end) + len(right) - len(left)
                # A left that stands now and did not before must reach to what was put in.
                at = max(0, at - self.longest + 1)

    def cut_word(self, word):
        """The word, cut."""
        kept = list(word)
        self.shorten(kept, 0, len(kept))
        return kept

    def cut_joint(self, fore, hind):
        """The one word with the other behind it, cut; both are stiff, so only their joint is looked at."""
        kept = fore + hind
        self.shorten(kept, max(0, len(fore) - self.longest + 1), len(fore))
        return kept


def cut(rules, word):
    """The word, cut by the rules."""
    return Shears(rules).cut_word(word)
