"""Words with their hind part put ahead of their fore part, and cut: which of them comes first.

A word that is cut is stiff: with its hind part put ahead, only what stands about the joint can be cut. What comes of
it is the same for most partings, so it is gone through once for all of them; for one alone only from where it comes
out otherwise, a left reaching beyond what is put ahead there, or beginning before it. All words are texts here.
"""

from boughturn.signs import pieces_of

# So many signs are looked for that the least row of signs begins with.
MOST_PREFIX = 16
# So many signs are compared at first, then twice as many, and so on.
CHUNK = 32


class Joint:
    """The end of a stiff word with its front behind it, being cut.

    It stands for the word's signs from `bottom` to `low`, those kept, those of the rest, which stand backward, and the
    word's signs from `taken` to `end`. No left begins ahead of the rest.
    """

    def __init__(self, shears, word):
        self.shears = shears
        self.word = word
        self.bottom = 0
        self.low = len(word)
        self.kept = []
        self.rest = []
        self.taken = 0
        self.end = len(word)
        self.put_back()

    def put_back(self):
        """Puts back into the rest what must be looked at anew."""
        wanted = self.shears.longest - 1 - len(self.kept)
        self.shears.put_back(self.kept, self.rest)
        if wanted > 0:
            start = max(self.bottom, self.low - wanted)
            self.rest.extend(self.word[start:self.low][::-1])
            self.low = start

    def next_rule(self):
        """The first rule of which the left stands where the rest begins, or None."""
        wanted = max(0, self.shears.longest - len(self.rest))
        more = self.word[self.taken:min(self.end, self.taken + wanted)]
        return self.shears.rule_for(list(more[::-1]) + self.rest)

    def place(self):
        """The place in the word where the rest begins, if no sign ahead of it was cut."""
        return self.low + len(self.kept)

    def reach(self, rule):
        """How many signs of the word's front are taken once the rule's left is."""
        return self.taken + max(0, len(rule[0]) - len(self.rest))

    def cut_by(self, rule):
        """Puts the rule's right in its left's stead."""
        backward, put = rule
        reached = self.reach(rule)
        self.rest[-len(backward):] = put
        self.taken = reached
        self.put_back()

    def step(self):
        """Looks at one place."""
        rule = self.next_rule()
        if rule is None:
            self.kept.append(self.rest.pop())
        else:
            self.cut_by(rule)

    def parted_at(self, at):
        """The same for a word of which only the signs from this place on are put ahead, and those before behind."""
        alone = Joint(self.shears, self.word)
        over = max(0, at - self.low)
        alone.bottom = alone.end = at
        alone.low = max(self.low, at)
        alone.kept = self.kept[over:]
        alone.rest = list(self.rest)
        for place in range(over - len(self.kept)):
            alone.rest.pop()
        alone.taken = self.taken
        return alone

    def many_left(self):
        """How many signs are left, wherever the word is parted, once no rest is."""
        return self.low + len(self.kept) - self.taken

    def turned_at(self, at):
        """The word with its signs from this place on put ahead, once no rest is."""
        kept = "".join(self.kept[max(0, at - self.low):])
        return self.word[at:self.low] + kept + self.word[self.taken:at]


def agreement(text, one, other, most):
    """How many signs, at most so many, are the same from the one place on as from the other."""
    same = 0
    size = CHUNK
    while same < most and text[one + same:one + same + size] == text[other + same:other + same + size]:
        same += size
        size *= 2
    while size > 0 and same < most:
        if text[one + same:one + same + size] == text[other + same:other + same + size]:
            same += size
        size //= 2
    return min(same, most)


def least_prefix(text, size):
    """The least of all rows of so many signs that stand in the text."""
    least = text[:size]
    seen = set()
    at = 0
    for piece in pieces_of(text):
        stretch = text[at:at + len(piece) + size - 1]
        if stretch not in seen:
            seen.add(stretch)
            rows = [stretch[place:place + size] for place in range(len(stretch) - size + 1)]
            least = min([least] + rows)
        at += len(piece)
    return least


def least_start(text, last):
    """The first place, none behind the last, from which the text, read round, is the least."""
    many = len(text)
    twice = text + text
    end = last + min(MOST_PREFIX, many)
    # What the least row begins with stands at few places: only these are looked at.
    prefix = least_prefix(twice[:end], min(MOST_PREFIX, many))
    one = max(0, twice.find(prefix, 0, end))
    other = twice.find(prefix, one + 1, end)
    while other >= 0:
        same = agreement(twice, one, other, many)
        if same == many:
            return one
        # As many places on as are the same, each is worse than that of the better row, if that is none behind the last.
        if twice[one + same] > twice[other + same]:
            start = max(other, one + min(same, last - other)) + 1
            one = other
        else:
            start = other + min(same, last - one) + 1
        other = twice.find(prefix, start, end)
    return one


class Partings:
    """A stiff word with its hind part put ahead, and cut, for each place at which it can be parted."""

    def __init__(self, shears, word):
        self.word = word
        self.joint = Joint(shears, word)
        # The places at which the word can be parted so that nothing comes out otherwise than at the joint.
        self.low = 1
        self.high = len(word) - 1
        # The fewest signs that are left so far, and the partings gone through alone that leave so many.
        self.fewest = len(word)
        self.alone = []
        # How far the word is looked at, from its front on and from its end back.
        self.front = 0
        self.back = len(word)
        self.go_through()

    def look_how_far(self, joint):
        """Takes in how far the word was looked at there."""
        self.front = max(self.front, joint.taken + joint.shears.longest)
        self.back = min(self.back, joint.low)

    def part_alone(self, at):
        """Goes through the parting at this place alone."""
        alone = self.joint.parted_at(at)
        while alone.rest:
            alone.step()
        self.look_how_far(alone)
        if alone.many_left() < self.fewest:
            self.fewest = alone.many_left()
            self.alone = []
        if alone.many_left() == self.fewest:
            self.alone.append(alone)

    def part(self, low, high):
        """Goes through the partings alone that are not at places from the low one to the high one."""
        for at in range(self.low, min(low, self.high + 1)):
            self.part_alone(at)
        self.low = max(self.low, low)
        for at in range(max(high + 1, self.low), self.high + 1):
            self.part_alone(at)
        self.high = min(self.high, high)

    def go_through(self):
        """Goes through all partings."""
        joint = self.joint
        while joint.rest and self.low <= self.high:
            rule = joint.next_rule()
            if rule is not None:
                self.part(joint.reach(rule), joint.place())
            joint.step()
        self.look_how_far(joint)
        if self.low <= self.high and joint.many_left() < self.fewest:
            self.fewest = joint.many_left()
            self.alone = []

    def turned_words(self):
        """The words of the fewest signs, with their places; of those that are cut alike the first one only."""
        told = []
        if len(self.word) == self.fewest:
            told.append((self.word, 0))
        if self.low <= self.high and self.joint.many_left() == self.fewest:
            word = self.joint.turned_at(self.low)
            at = least_start(word, self.high - self.low)
            told.append((word[at:] + word[:at], self.low + at))
        for alone in self.alone:
            told.append((alone.turned_at(alone.end), alone.end))
        return told

    def first(self):
        """The first one of all that come of it, and the number of signs put behind."""
        return min(self.turned_words(), key=lambda told: told[0])


def turned(press, pieces):
    """The round form of the pieces, one behind the other, and a turner.

    With its contrary ahead and it behind, the word is alike to the form.
    """
    form = press.cut_pieces(pieces)
    turner = ""
    place = -1
    while place != 0:
        partings = Partings(press.shears, form)
        press.work += 16 * (partings.front + len(form) - partings.back)
        other, place = partings.first()
        if place > 0:
            turner = press.cut_text(turner + form[:place])
            form = other
    return (form, turner)
