"""Words done many times: their round forms, told by a root and how often it is done.

Steps can lead to a word that is done so many times that it can't be written out. Cutting goes along such a word as it
goes along a few times of it: once all that is looked at comes again, time by time, it comes again for ever. All words
are texts here; what is being cut is a list of signs.
"""

from boughturn.joints import Partings, turned
from boughturn.signs import pieces_of

# It is not looked further whether what is kept comes again.
MOST_BEGUN = 12
# How often what comes again must stand so that its middle should be far from all that is looked at about the ends;
# and how often wider ones are tried.
FEWEST = 4
WIDER = 3


def root_of(word):
    """The shortest word that, done some times, is the word, and how many times."""
    many = len(word)
    size = many
    left = many
    factor = 2
    while left > 1:
        if factor * factor > left:
            factor = left
        if left % factor == 0:
            left //= factor
            shorter = size // factor
            if word[:shorter] * factor == word[:size]:
                size = shorter
        else:
            factor += 1
    return (word[:size], many // size) if many > 0 else (word, 1)


class Run:
    """A word done many times, cut as far as nothing behind can change it.

    It is `fore`, `again` as often as `many` tells, `hind` and the rest, which stands backward and is to be cut yet.
    The more often the word is done, the more often stands `again`; all else stays.
    """

    def __init__(self, fore, again, many, hind, rest):
        self.fore = fore
        self.again = again
        self.many = many
        self.hind = hind
        self.rest = rest

    def cut_with(self, shears, many):
        """All of it with `again` so many times, cut to the end, and how many signs were never put back."""
        kept = self.fore + self.again * many + self.hind
        untouched = shears.cut_on(kept, list(self.rest), 1)
        return ("".join(kept), untouched)

    def few(self, shears):
        """So many times that what is looked at about the ends should be far from the middle."""
        about = len(self.hind) + 3 * shears.longest
        return FEWEST * (about // len(self.again) + 1)


def come_again(states, at, lowest):
    """The size of `fore`, where the last state is as the one at this place, but for what came in behind; else None."""
    kept, rest = states[at]
    longer, longer_rest = states[-1]
    if rest != longer_rest:
        return None
    if kept == longer:
        return 0
    # What is ahead of the lowest was not looked at, so with the same behind it all goes on in the same way.
    end = len(longer) - len(kept) + lowest
    return lowest if 0 <= lowest <= end and longer[end:] == kept[lowest:] else None


def run_between(states, at, size, times):
    """The run of so many times, where the last state is as the one at this place, but for what came in behind."""
    every = len(states) - 1 - at
    kept = states[at][0]
    longer = states[-1][0]
    again = longer[size:len(longer) - len(kept) + size]
    hind, rest = states[at + (times - at) % every]
    return Run(kept[:size], again, (times - at) // every, hind[size:], rest)


def run_of(shears, word, times):
    """The run of the word, done so many times, or None where it isn't found soon."""
    kept = []
    rest = []
    states = [([], [])]
    lowest = []
    for begun in range(min(MOST_BEGUN, times)):
        rest = list(word[::-1]) + rest
        low = shears.cut_on(kept, rest, shears.longest)
        lowest = [min(each, low) for each in lowest + [low]]
        states.append((list(kept), list(rest)))
        for at, each in enumerate(lowest):
            size = come_again(states, at, each)
            if size is not None:
                return run_between(states, at, size, times)
    return None


def wide_form(press, run, many):
    """The round form of the run with `again` so many times, if by it those with more of them are known; else None."""
    shears = press.shears
    word, untouched = run.cut_with(shears, many)
    middle = len(run.fore) + many // 2 * len(run.again)
    partings = Partings(shears, word)
    # One `again` at least, ahead of the middle, is looked at neither from the front nor from the end.
    if untouched < middle or partings.back < middle or partings.front + len(run.again) > middle:
        return None
    if partings.alone or partings.low > partings.high or partings.joint.many_left() != partings.fewest:
        return None
    form = partings.first()[0]
    # With no left in it, read round, the first of all turned about is its round form, with more of `again` too.
    if not shears.is_stiff(list(form + form[:shears.longest])):
        return None
    return turned(press, pieces_of(form))[0]


def root_by(run, few, form):
    """The root of the run's round form, and how often, by the form with `again` only a few times; else None."""
    root, often = root_of(form)
    if len(run.again) % len(root) != 0:
        return None
    return (root, often + (run.many - few) * (len(run.again) // len(root)))


def times_form(press, word, times):
    """The root of the round form of the word, done so many times, and how often it is done; None where not found.

    It is told without writing out the word.
    """
    run = run_of(press.shears, word, times)
    if run is None:
        return None
    if not run.again:
        return root_of(turned(press, [run.cut_with(press.shears, 0)[0]])[0])
    few = run.few(press.shears)
    for trial in range(WIDER):
        form = wide_form(press, run, few) if few <= run.many else None
        if form is not None:
            return root_by(run, few, form)
        few *= FEWEST
    return None
