"""How tables, words and ways are written and read."""

from boughturn.errors import NoText
from boughturn.tables import MOST_ROWS, is_table

SMALL = "abcdefgh"
CAPITAL = "ABCDEFGH"
FIGURES = "0123456789"
MOST_FIGURES = 9
NO_TURNER = "."
NO_LETTERS = "-"


def turner_text(turner):
    """The sign of a turner."""
    if turner == 0:
        return NO_TURNER
    return SMALL[turner - 1] if turner > 0 else CAPITAL[-turner - 1]


def turners_text(turners):
    """The signs of turners, one behind the other."""
    return "".join(turner_text(turner) for turner in turners)


def word_text(word):
    """The text of a word."""
    return turners_text(word) if word else NO_TURNER


def letters_text(letters):
    """The figures of letters, one behind the other."""
    return "".join(FIGURES[letter] for letter in letters)


def way_text(way):
    """The text of a way."""
    return letters_text(way) if way else NO_LETTERS


def table_text(table):
    """The text of a table."""
    letters, rows = table
    lines = [f"letters {letters}"]
    for sign, (swaps, parts) in zip(SMALL, rows):
        lines.append(f"{sign} {letters_text(swaps)} {turners_text(parts)}")
    return "\n".join(lines)


def look_text(thing):
    """Refuses what is no text."""
    if not isinstance(thing, str):
        raise NoText("no text")


def read_turner(many, sign):
    """The turner of this sign, of a table of so many rows."""
    if sign in SMALL[:many]:
        return SMALL.index(sign) + 1
    if sign in CAPITAL[:many]:
        return -CAPITAL.index(sign) - 1
    raise NoText(f"no turner: {sign}")


def read_part(many, sign):
    """The turner of this sign, which may be 0."""
    return 0 if sign == NO_TURNER else read_turner(many, sign)


def read_letters(letters, text):
    """The letters of these figures, of a table of so many letters."""
    for sign in text:
        if sign not in FIGURES[:letters]:
            raise NoText(f"no letter: {sign}")
    return [FIGURES.index(sign) for sign in text]


def read_word(table, text):
    """The word of this text."""
    look_text(text)
    if text == "":
        raise NoText("no word")
    if text == NO_TURNER:
        return []
    return [read_turner(len(table[1]), sign) for sign in text]


def read_way(table, text):
    """The way of this text."""
    look_text(text)
    if text == "":
        raise NoText("no way")
    if text == NO_LETTERS:
        return []
    return read_letters(table[0], text)


def read_number(text):
    """The number of this text."""
    if not 1 <= len(text) <= MOST_FIGURES or any(sign not in FIGURES for sign in text):
        raise NoText(f"no number: {text}")
    if text[0] == "0" and text != "0":
        raise NoText(f"a nought ahead: {text}")
    return int(text)


def read_fields(name, many, line):
    """What stands in a line behind its name: so many texts, a blank ahead of each."""
    fields = line.split(" ")
    if fields[0] != name or len(fields) != many + 1:
        raise NoText(f"no line of {name}: {line}")
    return fields[1:]


def read_named_number(name, line):
    """The number in a line behind its name."""
    return read_number(read_fields(name, 1, line)[0])


def read_row(letters, many, sign, line):
    """The row of this line, of a table of so many letters and rows; the sign is that of its turner."""
    swaps, parts = read_fields(sign, 2, line)
    return (tuple(read_letters(letters, swaps)), tuple(read_part(many, part) for part in parts))


def read_table(text):
    """The table of this text."""
    look_text(text)
    lines = text.split("\n")
    letters = read_named_number("letters", lines[0])
    many = len(lines) - 1
    if many > MOST_ROWS:
        raise NoText("too many rows")
    rows = tuple(read_row(letters, many, sign, line) for sign, line in zip(SMALL, lines[1:]))
    table = (letters, rows)
    if not is_table(table):
        raise NoText("no table")
    return table
