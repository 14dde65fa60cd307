"""Words as texts, a sign for each turner: so long words are compared, put together and looked through quickly.

The signs rise as the ranks do, so of two texts of the same size the lesser one is that of the word that comes first.
"""

from boughturn.words import rank

SIGNS = "0123456789ABCDEFGHIJKLMNOPQRSTUVWXYZabcdefghijklmnopqrstuvwxyz"
# A text is parted into pieces of about so many signs, more of them the longer it is.
LEAST_PIECE = 64
MOST_PIECE = 512
PIECES = 2000
# What pieces end with is looked for in so many signs, and has at most so many.
SAMPLE = 65536
MOST_MARK = 40


def sign_of(turner):
    """The sign of the turner."""
    return SIGNS[rank(turner)]


def turner_of(sign):
    """The turner of the sign."""
    half, odd = divmod(SIGNS.index(sign), 2)
    return -half if odd == 1 else half


def text_of(word):
    """The text of the word."""
    signs = {turner: sign_of(turner) for turner in sorted(set(word))}
    return "".join([signs[turner] for turner in word])


def word_of(text):
    """The word of the text."""
    turners = {sign: turner_of(sign) for sign in sorted(set(text))}
    return [turners[sign] for sign in text]


def mark_of(text, size):
    """Signs that stand in the text, if they can be found, about once in so many signs."""
    start = max(0, len(text) - SAMPLE) // 2
    sample = text[start:start + SAMPLE]
    middle = len(sample) // 2
    many = 1
    while many < MOST_MARK and sample.count(sample[middle:middle + many]) * size > len(sample):
        many += 1
    return sample[middle:middle + many]


def pieces_of(text):
    """The text, parted where the same signs stand, so that what stands in it twice is parted alike there."""
    size = min(MOST_PIECE, max(LEAST_PIECE, len(text) // PIECES))
    if len(text) <= size:
        return [text]
    mark = mark_of(text, size)
    pieces = [part + mark for part in text.split(mark)]
    pieces[-1] = pieces[-1][:len(pieces[-1]) - len(mark)]
    told = []
    for piece in pieces:
        if len(piece) <= 8 * size:
            told.append(piece)
        else:
            told.extend([piece[at:at + size] for at in range(0, len(piece), size)])
    return told
