"""Long words, as texts, cut piece by piece: what came of a piece once is kept, for it may stand there many times."""

from boughturn.rules import Shears
from boughturn.signs import pieces_of, text_of

# So many signs of what is kept already are looked at with a piece, if no more are wanted.
LEAST_TOP = 12
# More is not kept of what came of pieces.
MOST_KNOWN = 300000


def take_top(done, size):
    """Takes the last signs, so many or all, off the texts that are done."""
    taken = []
    many = 0
    while done and many < size:
        taken.append(done.pop())
        many += len(taken[-1])
    text = "".join(reversed(taken))
    if many > size:
        done.append(text[:many - size])
        text = text[many - size:]
    return text


class Press:
    """Cuts texts by rules, and keeps account of its work, about as many steps as are gone one by one."""

    def __init__(self, rules):
        self.shears = Shears([(list(text_of(left)), list(text_of(right))) for left, right in rules])
        self.known = {}
        self.work = 0

    def pressed(self, top, text, is_all, enough):
        """What is kept and what is left of the text behind the top; None where what is ahead of the top is wanted."""
        kept = list(top)
        rest = list(text)[::-1]
        self.work += 2 * len(rest)
        untouched = self.shears.cut_on(kept, rest, enough)
        if untouched < 0 and not is_all:
            return None
        return ("".join(kept), "".join(reversed(rest)))

    def press_on(self, done, text, enough):
        """Cuts on with the text, as long as enough signs are left; what is done is changed, and what is left told."""
        size = LEAST_TOP
        told = None
        while told is None:
            top = take_top(done, size)
            key = (top, text, not done, enough)
            if key not in self.known:
                if len(self.known) > MOST_KNOWN:
                    self.known.clear()
                self.known[key] = self.pressed(top, text, not done, enough)
            told = self.known[key]
            self.work += 4
            if told is None:
                done.append(top)
                size = 4 * size + len(text)
        done.append(told[0])
        return told[1]

    def cut_pieces(self, pieces):
        """The pieces, one behind the other, cut."""
        done = []
        rest = ""
        for piece in pieces:
            rest = self.press_on(done, rest + piece, self.shears.longest)
        self.press_on(done, rest, 1)
        return "".join(done)

    def cut_text(self, text):
        """The text, cut."""
        return self.cut_pieces(pieces_of(text))
