"""How papers are written and read."""

from boughturn.errors import NoText
from boughturn.papers import look_paper
from boughturn.texts import look_text, read_fields, read_named_number, read_word, word_text


def paper_text(paper):
    """The text of a paper."""
    rules, closed, length, depth = paper
    lines = [f"length {length}", f"depth {depth}"]
    lines.extend([f"rule {word_text(left)} {word_text(right)}" for left, right in rules])
    lines.extend([f"closed {word_text(word)}" for word in closed])
    return "\n".join(lines)


def read_rule(table, line):
    """The rule of this line; whether it is one is looked at with the paper."""
    left, right = read_fields("rule", 2, line)
    return (read_word(table, left), read_word(table, right))


def read_closed(table, line):
    """The closed list's word of this line."""
    return read_word(table, read_fields("closed", 1, line)[0])


def many_rules(lines):
    """How many of the lines, from the first one on, are lines of rules."""
    many = 0
    while many < len(lines) and lines[many].startswith("rule "):
        many += 1
    return many


def read_lines(table, text):
    """The paper of this text, not looked at."""
    look_text(text)
    lines = text.split("\n")
    if len(lines) < 2:
        raise NoText("no depth")
    length = read_named_number("length", lines[0])
    depth = read_named_number("depth", lines[1])
    many = 2 + many_rules(lines[2:])
    rules = [read_rule(table, line) for line in lines[2:many]]
    return (rules, [read_closed(table, line) for line in lines[many:]], length, depth)


def read_paper(table, text):
    """The paper of this text, which must be let by for the table."""
    paper = read_lines(table, text)
    look_paper(table, paper)
    return paper
