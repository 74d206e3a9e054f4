"""Numbers, spans and maps read from texts, and spans, maps and rules shown as texts."""

from spanmap.ends import Endless, Open, Shut
from spanmap.errors import NoRule, NoText
from spanmap.rules import laid_rows, rule_rows
from spanmap.spans import length, span

FIGURES = "0123456789"
MOST_FIGURES = 60


def read_number(text):
    if not is_number(text):
        raise NoText("this writes no number")
    return int(text)


def read_span(text):
    ends = read_ends(text)
    return span(ends[0], ends[1])


def read_map(text):
    if not isinstance(text, str):
        raise NoText("this is no text")
    if text == "":
        return []
    rows = []
    for item in text.split("; "):
        rows.extend(item_rows(item))
    return laid_rows(rows)


def show_span(one):
    low = "(.." if one[0] is None else "[" + str(one[0])
    behind = "..)" if one[1] is None else str(one[1]) + ")"
    return low + "," + behind


def show_map(pieces):
    return "; ".join([show_piece(low, behind, value) for low, behind, value in pieces])


def show_rules(rules):
    return "; ".join([show_rule(rule) for rule in rules])


def is_number(text):
    if not isinstance(text, str):
        return False
    figures = text[1:] if text.startswith("-") else text
    if len(figures) < 1 or len(figures) > MOST_FIGURES:
        return False
    if not all([sign in FIGURES for sign in figures]):
        return False
    return figures[0] != "0" or text == "0"


# The ends are read apart from the span between them: where nothing lies between, other things may be refused first.
def read_ends(text):
    if not isinstance(text, str):
        raise NoText("this is no text")
    sides = text.split(",")
    if len(sides) != 2:
        raise NoText("a span is written with one comma")
    return (read_low_end(sides[0]), read_high_end(sides[1]))


def read_low_end(text):
    if text == "(..":
        return Endless()
    if text.startswith("["):
        return Shut(read_number(text[1:]))
    if text.startswith("("):
        return Open(read_number(text[1:]))
    raise NoText("this writes no low end")


def read_high_end(text):
    if text == "..)":
        return Endless()
    if text.endswith("]"):
        return Shut(read_number(text[:-1]))
    if text.endswith(")"):
        return Open(read_number(text[:-1]))
    raise NoText("this writes no high end")


def item_rows(item):
    words = item.split(" ")
    sides = words[0].split("=")
    if len(sides) != 2 or not (len(words) == 1 or comes_each(words)):
        raise NoText("this writes no item")
    ends = read_ends(sides[0])
    value = read_number(sides[1])
    numbers = [read_number(word) for word in words[2::2]]
    stretch = span(ends[0], ends[1])
    if not numbers:
        return [(stretch, value)]
    if length(stretch) is None:
        raise NoRule("a stretch without an end can't come again")
    return rule_rows((stretch[0], stretch[1], numbers[0], numbers[1], value))


def comes_each(words):
    return len(words) == 5 and words[1] == "each" and words[3] == "times"


def show_piece(low, behind, value):
    return show_span((low, behind)) + "=" + str(value)


def show_rule(rule):
    shown = show_piece(rule[0], rule[1], rule[4])
    if rule[3] == 1:
        return shown
    return shown + " each " + str(rule[2]) + " times " + str(rule[3])
