"""The desk: lines, each by a name, to which rows of words are said."""

from spanmap.deeds import Mirror, Move, Narrow, Put, Stretch, Widen
from spanmap.errors import NoName, NoRow, NoText
from spanmap.fewest import fewest
from spanmap.finding import value_at
from spanmap.gaps import longest
from spanmap.joins import joined, merged
from spanmap.lines import Line
from spanmap.names import is_name
from spanmap.texts import read_map, read_number, read_span, show_map, show_rules, show_span
from spanmap.tries import first_run
from spanmap.ways import either, if_alone, if_both, summed

# What the words behind the first one of a row stand for: a line by its name, a name by which nothing needs to stand,
# a number, a span, a map, a way.
KINDS = {
    "line": ("name", "map"),
    "put": ("line", "span", "number"),
    "take": ("line", "span"),
    "widen": ("line", "number", "number"),
    "narrow": ("line", "number", "number"),
    "move": ("line", "number"),
    "stretch": ("line", "number", "number"),
    "mirror": ("line",),
    "mark": ("line", "name", "number"),
    "back": ("line",),
    "again": ("line",),
    "join": ("name", "line", "line", "way"),
    "merge": ("name", "line", "line"),
    "at": ("line", "number"),
    "where": ("line", "name"),
    "show": ("line",),
    "gap": ("line", "span"),
    "run": ("line", "number", "number", "number"),
    "same": ("line", "line"),
    "rules": ("line",),
}


# A row is read whole ahead of all that it does, and what may be refused is found ahead of what it changes.
class Desk:

    def __init__(self):
        self.lines = {}

    def say(self, row):
        words = words_of(row)
        first = words[0]
        given = [self.read(kind, word) for kind, word in zip(KINDS[first], words[1:])]
        if first in DEEDS:
            given[0].do(DEEDS[first](given))
            return "ok"
        if first in BEGINNINGS:
            self.lines[given[0]] = Line(BEGINNINGS[first](given))
            return "ok"
        return ANSWERS[first](given)

    def read(self, kind, word):
        if kind != "line":
            return read_word(kind, word)
        if word not in self.lines:
            raise NoName("no line stands by this name")
        return self.lines[word]


def words_of(row):
    if not isinstance(row, str):
        raise NoRow("a row is a text")
    # The text of a map has blanks of its own, so a row that begins a line is cut at its first two alone.
    words = row.split(" ", 2) if row.startswith("line ") else row.split(" ")
    if words[0] not in KINDS or len(words) != len(KINDS[words[0]]) + 1:
        raise NoRow("this is no row that is known")
    return words


def read_word(kind, word):
    if kind == "number":
        return read_number(word)
    if kind == "span":
        return read_span(word)
    if kind == "map":
        return read_map(word)
    if kind == "way":
        return read_way(word)
    if not is_name(word):
        raise NoName("a name is one to eight small letters")
    return word


def read_way(word):
    if word == "first":
        return either
    if word == "both":
        return if_both
    if word == "less":
        return if_alone
    if word == "sum":
        return summed
    raise NoText("a way is first, both, less or sum")


def put_deed(given):
    return Put(given[1], given[2])


def take_deed(given):
    return Put(given[1], None)


def widen_deed(given):
    return Widen(given[1], given[2])


def narrow_deed(given):
    return Narrow(given[1], given[2])


def move_deed(given):
    return Move(given[1])


def stretch_deed(given):
    return Stretch(given[1], given[2])


def mirror_deed(given):
    return Mirror()


def read_beginning(given):
    return given[1]


def joined_beginning(given):
    return joined(given[1].told(), given[2].told(), given[3])


def merged_beginning(given):
    return merged(given[1].told(), given[2].told())


def answer_mark(given):
    given[0].mark(given[1], given[2])
    return "ok"


def answer_back(given):
    given[0].back()
    return "ok"


def answer_again(given):
    given[0].again()
    return "ok"


def answer_at(given):
    return number_or(value_at(given[0].told(), given[1]), "none")


def answer_where(given):
    return number_or(given[0].where(given[1]), "lost")


def answer_show(given):
    return show_map(given[0].told())


def answer_gap(given):
    gap = longest(given[0].told(), given[1])
    return "none" if gap is None else show_span(gap)


def answer_run(given):
    return number_or(first_run(given[0].told(), given[1], given[2], lambda value: value == given[3])[0], "none")


def answer_same(given):
    return "yes" if given[0].told() == given[1].told() else "no"


def answer_rules(given):
    return show_rules(fewest(given[0].told()))


def number_or(number, nothing):
    return nothing if number is None else str(number)


DEEDS = {
    "put": put_deed,
    "take": take_deed,
    "widen": widen_deed,
    "narrow": narrow_deed,
    "move": move_deed,
    "stretch": stretch_deed,
    "mirror": mirror_deed,
}

BEGINNINGS = {
    "line": read_beginning,
    "join": joined_beginning,
    "merge": merged_beginning,
}

ANSWERS = {
    "mark": answer_mark,
    "back": answer_back,
    "again": answer_again,
    "at": answer_at,
    "where": answer_where,
    "show": answer_show,
    "gap": answer_gap,
    "run": answer_run,
    "same": answer_same,
    "rules": answer_rules,
}
