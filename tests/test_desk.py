import itertools
import random
import unittest

from helper import NO_NAMES, SpanTest, many_pieces, plain_came, plain_went, told_at
from spanmap import desk as desk_module
from spanmap.desk import Desk
from spanmap.errors import Clash, Empty, NoCount, NoDeed, NoEnd, NoMark, NoName, NoRow, NoRule, NoShare, NoText, TooMuch
from spanmap.maps import is_map
from spanmap.texts import read_map, show_map

SIXTY = "9" * 60
MUCH = "; ".join(["[0,1)=5 each 2 times 100"] * 4)
NINE = "; ".join([f"[{2 * k},{2 * k + 1})=1" for k in range(9)])

# For each row: good words behind the first one, and what each of them stands for.
ROWS = {
    "line": (("new", "[0,9)=1; [3,5)=2"), ("new", "text")),
    "put": (("a", "[0,5)", "7"), ("line", "span", "number")),
    "take": (("a", "[0,5)"), ("line", "span")),
    "widen": (("a", "1", "2"), ("line", "number", "number")),
    "narrow": (("a", "1", "2"), ("line", "number", "number")),
    "move": (("a", "-3"), ("line", "number")),
    "stretch": (("a", "2", "3"), ("line", "number", "number")),
    "mirror": (("a",), ("line",)),
    "mark": (("a", "m", "5"), ("line", "new", "number")),
    "back": (("a",), ("line",)),
    "again": (("a",), ("line",)),
    "join": (("new", "a", "b", "sum"), ("new", "line", "line", "way")),
    "merge": (("new", "a", "f"), ("new", "line", "line")),
    "at": (("a", "0"), ("line", "number")),
    "where": (("a", "m"), ("line", "new")),
    "show": (("a",), ("line",)),
    "gap": (("a", "(..,..)"), ("line", "span")),
    "run": (("a", "0", "2", "1"), ("line", "number", "number", "number")),
    "same": (("a", "b"), ("line", "line")),
    "rules": (("b",), ("line",)),
}

# For each kind of word: words that are refused, and with what.
WRONG = {
    "line": [(word, NoName) for word in ("", "zz", "A", "a1", "aa", "abcdefghi", "-", "5", "new", "a\n", "[0,5)")],
    "new": [(word, NoName) for word in ("", "A", "New", "a1", "abcdefghi", "-", "5", "a\n", "a_b", "[0,5)")],
    "number": [(word, NoText) for word in ("", "x", "-", "-0", "+3", "007", "1.0", "5\n", "1" * 61, "[0,5)", "none")],
    "span": [(word, NoText) for word in ("", "x", "5", "[3,9", "3,9)", "[3;9)", "[3,09)", "[9,x)", "(..,..]")]
    + [(word, Empty) for word in ("[3,3)", "(3,4)", "[9,3]")],
    "way": [(word, NoText) for word in ("", "First", "firsts", "last", "merge", "fir", "add", "5", "sum\n")],
    "text": [("x", NoText), (" ", NoText), ("[0,9)=1;", NoText), ("[0,9)=1 ", NoText), (" [0,9)=1", NoText),
             ("[3,3)=1", Empty), ("[0,9)=1; [3,3)=1", Empty), ("[3,9)=1 each 6 times 2", NoRule),
             ("(..,9)=1 each 0 times 1", NoRule), (MUCH, TooMuch), (MUCH + "; x", NoText), ("[3,3)=1; " + MUCH, Empty)],
}

# Rows whose words are all good, refused by what the stages say.
BEHIND = [
    ("widen a 1 -1", NoCount), ("narrow a 1 -1", NoCount), ("widen a 1 -" + SIXTY, NoCount), ("stretch a 0 1", NoShare),
    ("stretch a 1 0", NoShare), ("stretch a 1001 1", NoShare), ("stretch a 1 1001", NoShare),
    ("stretch a -1 1", NoShare),
    ("back b", NoDeed), ("again b", NoDeed), ("again g", NoDeed), ("where a n", NoMark), ("where b m", NoMark),
    ("where a mm", NoMark), ("merge new a b", Clash), ("merge a b a", Clash), ("run a 0 0 1", NoCount),
    ("run a 0 -1 1", NoCount), ("rules c", NoEnd), ("rules d", TooMuch), ("rules e", NoEnd),
]


def desk_with(*rows):
    desk = Desk()
    for row in rows:
        desk.say(row)
    return desk


def full_desk():
    """Lines with deeds and marks, of which some are taken back; a map without ends, one of nine pieces, one of both."""
    return desk_with(
        "line a [0,9)=1", "mark a m 4", "narrow a 4 1", "put a [2,4) 3", "mark a o 7", "move a 5",
        "mirror a", "back a", "back a", "line b [0,2)=5; [3,5)=5", "line c (..,0)=1; [3,4)=2", "line d " + NINE,
        "line e (..,-5)=2; " + NINE, "line f [20,30)=4", "line g [0,1)=1", "put g [5,6) 2", "mark g m 5", "back g",
        "again g",
    )


def state_of(desk):
    """What all lines show, their marks, and what they show while all is done again and taken back: the desk changes."""
    told = []
    for name in ("a", "b", "c", "d", "e", "f", "g", "new"):
        told.append((name, line_state(desk, name)))
    for name in ("a", "b", "c", "d", "e", "f", "g"):
        for row in ("again " + name, "back " + name):
            while said(desk, row) == "ok":
                told.append((row, line_state(desk, name)))
    return told


def line_state(desk, name):
    return [said(desk, row) for row in ("show " + name, *["where " + name + " " + mark for mark in ("m", "n", "o")])]


def said(desk, row):
    try:
        return desk.say(row)
    except (NoDeed, NoMark, NoName) as error:
        return type(error)


class DeskTest(SpanTest):

    def check_said(self, desk, row, answer):
        self.check_same(desk.say(row), answer)

    def check_refused_row(self, kind, row):
        """It is refused with this, and all lines are as they were."""
        desk = full_desk()
        self.check_refused(kind, desk.say, row)
        self.assertEqual(state_of(desk), self.full_state)

    @classmethod
    def setUpClass(cls):
        cls.full_state = state_of(full_desk())


class TestRows(DeskTest):

    def test_it_belongs_to_the_desk_module(self):
        self.check_belongs(desk_module, ["Desk"])

    def test_the_good_rows_are_good(self):
        for first, (words, kinds) in ROWS.items():
            answer = full_desk().say(" ".join([first, *words]))
            self.assertIs(type(answer), str)
            if first not in ("at", "where", "show", "gap", "run", "same", "rules"):
                self.assertEqual(answer, "ok")

    def test_line_and_show(self):
        desk = Desk()
        for text, shown in (("", ""), ("[0,9)=1", "[0,9)=1"), ("(-1,8]=1; [3,5)=2", "[0,3)=1; [3,5)=2; [5,9)=1"),
                            ("(..,..)=-3", "(..,..)=-3"), ("[0,1)=5 each 2 times 2", "[0,1)=5; [2,3)=5"),
                            ("(..,0]=1; [5,..)=0", "(..,1)=1; [5,..)=0")):
            self.check_said(desk, "line a " + text, "ok")
            self.check_said(desk, "show a", shown)

    def test_a_line_begun_anew(self):
        desk = desk_with("line a [0,9)=1", "mark a m 4", "move a 2", "mirror a", "back a")
        self.check_said(desk, "line a [5,6)=2", "ok")
        self.check_said(desk, "show a", "[5,6)=2")
        self.check_refused(NoMark, desk.say, "where a m")
        self.check_refused(NoDeed, desk.say, "back a")
        self.check_refused(NoDeed, desk.say, "again a")

    def test_names_of_one_to_eight_letters(self):
        names = ["a", "ab", "abcdefgh", "z", "line", "show", "none", "first", "each"]
        desk = desk_with(*[f"line {name} [{number},{number + 1})=1" for number, name in enumerate(names)])
        for number, name in enumerate(names):
            self.check_said(desk, "show " + name, f"[{number},{number + 1})=1")

    def test_deeds(self):
        for row, shown in (
                ("put a [3,5) 7", "[0,3)=1; [3,5)=7; [5,9)=1; [12,14)=2"),
                ("put a (..,..) -7", "(..,..)=-7"),
                ("put a (8,11] 1", "[0,12)=1; [12,14)=2"),
                ("take a [3,5)", "[0,3)=1; [5,9)=1; [12,14)=2"),
                ("take a (..,..)", ""),
                ("widen a 4 3", "[0,4)=1; [7,12)=1; [15,17)=2"),
                ("widen a 4 0", "[0,9)=1; [12,14)=2"),
                ("narrow a 4 3", "[0,6)=1; [9,11)=2"),
                ("narrow a 4 0", "[0,9)=1; [12,14)=2"),
                ("narrow a 9 3", "[0,9)=1; [9,11)=2"),
                ("move a 5", "[5,14)=1; [17,19)=2"),
                ("move a -5", "[-5,4)=1; [7,9)=2"),
                ("move a 0", "[0,9)=1; [12,14)=2"),
                ("stretch a 2 1", "[0,18)=1; [24,28)=2"),
                ("stretch a 1 2", "[0,5)=1; [6,7)=2"),
                ("stretch a 1000 1000", "[0,9)=1; [12,14)=2"),
                ("mirror a", "[-13,-11)=2; [-8,1)=1")):
            desk = desk_with("line a [0,9)=1; [12,14)=2", "line b [0,9)=1")
            self.check_said(desk, row, "ok")
            self.check_said(desk, "show a", shown)
            self.check_said(desk, "show b", "[0,9)=1")
            self.check_said(desk, "back a", "ok")
            self.check_said(desk, "show a", "[0,9)=1; [12,14)=2")
            self.check_said(desk, "again a", "ok")
            self.check_said(desk, "show a", shown)

    def test_marks(self):
        desk = desk_with("line a [0,9)=1", "line b ")
        self.check_said(desk, "mark a m 4", "ok")
        self.check_said(desk, "mark a a 5", "ok")
        for row, places in (("show a", ("4", "5")), ("move a 3", ("7", "8")), ("mirror a", ("-7", "-8")),
                            ("narrow a -7 1", ("lost", "-8")), ("move a 8", ("lost", "0")), ("back a", ("lost", "-8")),
                            ("back a", ("-7", "-8")), ("again a", ("lost", "-8")), ("mark a m 0", ("0", "-8")),
                            ("back a", ("lost", "-8")), ("back a", ("-7", "-8")), ("put a (..,..) 5", ("-7", "-8"))):
            desk.say(row)
            self.check_said(desk, "where a m", places[0])
            self.check_said(desk, "where a a", places[1])
        self.check_refused(NoMark, desk.say, "where b m")

    def test_back_and_again(self):
        desk = desk_with("line a ", "put a [0,1) 1", "mark a m 3", "put a [1,2) 2")
        for row, shown in (("back a", "[0,1)=1"), ("back a", "[0,1)=1"), ("back a", ""), ("again a", "[0,1)=1"),
                           ("again a", "[0,1)=1"), ("again a", "[0,1)=1; [1,2)=2")):
            self.check_said(desk, row, "ok")
            self.check_said(desk, "show a", shown)
        self.check_refused(NoDeed, desk.say, "again a")

    def test_once_a_row_changes_the_line_nothing_is_done_again(self):
        for row in ("put a [0,5) 7", "take a [0,5)", "widen a 1 0", "narrow a 1 0", "move a 0", "stretch a 1 1",
                    "mirror a", "mark a m 5", "line a [0,5)=1", "join a a a first", "merge a a a"):
            desk = desk_with("line a [0,9)=1", "move a 5", "back a", row)
            self.check_refused(NoDeed, desk.say, "again a")

    def test_rows_that_ask_change_nothing(self):
        for first in ("at", "where", "show", "gap", "run", "same", "rules"):
            desk = full_desk()
            desk.say(" ".join([first, *ROWS[first][0]]))
            self.assertEqual(state_of(desk), self.full_state)

    def test_ways(self):
        lines = ("line a [0,4)=1; [6,9)=3", "line b [2,7)=10; [20,..)=5")
        for way, shown in (
                ("first", "[0,4)=1; [4,6)=10; [6,9)=3; [20,..)=5"),
                ("both", "[2,4)=1; [6,7)=3"),
                ("less", "[0,2)=1; [7,9)=3"),
                ("sum", "[0,2)=1; [2,4)=11; [4,6)=10; [6,7)=13; [7,9)=3; [20,..)=5")):
            desk = desk_with(*lines)
            self.check_said(desk, "join c a b " + way, "ok")
            self.check_said(desk, "show c", shown)
            self.check_said(desk, "show a", "[0,4)=1; [6,9)=3")
            self.check_said(desk, "show b", "[2,7)=10; [20,..)=5")
            for new in ("a", "b"):
                desk = desk_with(*lines, "mark " + new + " m 3")
                self.check_said(desk, f"join {new} a b {way}", "ok")
                self.check_said(desk, "show " + new, shown)
                self.check_refused(NoDeed, desk.say, "back " + new)
                self.check_refused(NoMark, desk.say, f"where {new} m")

    def test_ways_with_nought(self):
        desk = desk_with("line a [0,4)=0", "line b [2,6)=5; [8,9)=0")
        for way, shown in (("first", "[0,4)=0; [4,6)=5; [8,9)=0"), ("both", "[2,4)=0"), ("less", "[0,2)=0"),
                           ("sum", "[0,2)=0; [2,6)=5; [8,9)=0")):
            desk.say("join c a b " + way)
            self.check_said(desk, "show c", shown)

    def test_a_line_joined_with_itself(self):
        for way, shown in (("first", "[0,4)=1"), ("both", "[0,4)=1"), ("less", ""), ("sum", "[0,4)=2")):
            desk = desk_with("line a [0,4)=1")
            self.check_said(desk, "join a a a " + way, "ok")
            self.check_said(desk, "show a", shown)

    def test_merge(self):
        lines = ("line a [0,4)=1", "line b [2,6)=1; [8,9)=2")
        for new in ("a", "b", "c"):
            desk = desk_with(*lines)
            self.check_said(desk, f"merge {new} a b", "ok")
            self.check_said(desk, "show " + new, "[0,6)=1; [8,9)=2")
            self.check_refused(NoDeed, desk.say, "back " + new)
        self.check_said(desk, "show a", "[0,4)=1")

    def test_a_joined_line_is_a_line_of_its_own(self):
        desk = desk_with("line a [0,4)=1", "line b [2,6)=1", "join c a b first")
        for row in ("move a 10", "put b [0,1) 9", "mirror c"):
            desk.say(row)
        self.check_said(desk, "show a", "[10,14)=1")
        self.check_said(desk, "show b", "[0,1)=9; [2,6)=1")
        self.check_said(desk, "show c", "[-5,1)=1")

    def test_clash(self):
        error = self.check_refused(Clash, full_desk().say, "merge new a b")
        self.assertEqual((error.one, error.other), (1, 5))
        self.assertIn(error.place, range(5))

    def test_at(self):
        desk = desk_with("line a [0,4)=0; [4,6)=-5; [9,..)=7")
        for place, answer in ((-1, "none"), (0, "0"), (3, "0"), (4, "-5"), (6, "none"), (9, "7"), (SIXTY, "7")):
            self.check_said(desk, f"at a {place}", answer)

    def test_gap(self):
        desk = desk_with("line a [0,4)=0; [6,8)=1; [9,20)=1", "line b (..,..)=1", "line c ")
        for span, answer in (("[0,20)", "[4,6)"), ("(5,20]", "[8,9)"), ("(..,20)", "(..,0)"),
                             ("(..,..)", "(..,0)"), ("[0,..)", "[20,..)"), ("[0,4)", "none"), ("(3,4]", "[4,5)")):
            self.check_said(desk, "gap a " + span, answer)
        self.check_said(desk, "gap b (..,..)", "none")
        self.check_said(desk, "gap c (..,..)", "(..,..)")
        self.check_said(desk, "gap c (2,5]", "[3,6)")

    def test_run(self):
        desk = desk_with("line a [0,4)=0; [4,6)=1; [9,20)=0; [30,..)=1")
        for words, answer in (("-5 4 0", "0"), ("1 4 0", "9"), ("0 12 0", "none"), ("0 2 1", "4"), ("0 3 1", "30"),
                              ("40 " + SIXTY + " 1", "40"), ("0 1 7", "none"), ("-5 1 0", "0")):
            self.check_said(desk, "run a " + words, answer)

    def test_same(self):
        desk = desk_with("line a [0,4)=0", "line b [0,2)=0; [2,4)=0", "line c [0,4)=1", "mark b m 5", "move b 0")
        for words, answer in (("a b", "yes"), ("b a", "yes"), ("a a", "yes"), ("a c", "no"), ("c b", "no")):
            self.check_said(desk, "same " + words, answer)

    def test_rules(self):
        desk = Desk()
        for text, shown in (("", ""), ("[0,1)=5; [3,4)=5; [6,7)=5", "[0,1)=5 each 3 times 3"), ("[3,9)=1", "[3,9)=1"),
                            ("[-1,0)=2 each 2 times 8", "[-1,0)=2 each 2 times 8")):
            desk.say("line a " + text)
            self.check_said(desk, "rules a", shown)
        desk.say("line a [0,1)=1; [5,6)=2; [10,11)=1; [15,16)=2")
        items = sorted(desk.say("rules a").split("; "))
        self.assertEqual(items, ["[0,1)=1 each 10 times 2", "[5,6)=2 each 10 times 2"])

    def test_three_hundred_pieces(self):
        text = show_map(many_pieces(300))
        desk = desk_with("line a " + text, "line b ", "join c a b first")
        self.check_said(desk, "show c", text)
        self.check_said(desk, "same a c", "yes")

    def test_numbers_of_more_than_sixty_figures(self):
        value = 10 ** 60 - 1
        desk = desk_with("line a [0,1)=" + SIXTY, "line b ", "mark a m 0", "move a " + SIXTY, "move a " + SIXTY)
        self.check_said(desk, "show a", f"[{2 * value},{2 * value + 1})={value}")
        self.check_said(desk, "where a m", str(2 * value))
        self.check_said(desk, "gap a [0,..)", f"[{2 * value + 1},..)")
        self.check_said(desk, "run a 0 1 " + SIXTY, str(2 * value))
        self.check_said(desk, "rules a", f"[{2 * value},{2 * value + 1})={value}")
        desk.say("join b a a sum")
        self.check_said(desk, "show b", f"[{2 * value},{2 * value + 1})={2 * value}")
        desk = desk_with("line a [-1,0)=1; [1,2)=" + SIXTY, "mark a m 1", "mark a o -1")
        for number in range(140):
            self.check_said(desk, "stretch a 1000 1", "ok")
        far = 1000 ** 140
        self.check_said(desk, "show a", f"[{-far},0)=1; [{far},{2 * far})={value}")
        self.check_said(desk, "where a m", str(far))
        self.check_said(desk, "where a o", str(-far))

    def test_two_desks_know_nothing_of_one_another(self):
        one, other = Desk(), Desk()
        one.say("line a [0,1)=1")
        self.check_refused(NoName, other.say, "show a")
        other.say("line a [5,6)=1")
        one.say("mirror a")
        self.check_said(one, "show a", "[0,1)=1")
        self.check_said(other, "show a", "[5,6)=1")
        self.check_refused(NoDeed, other.say, "back a")
        self.check_refused(NoName, Desk().say, "show a")


class TestRefused(DeskTest):

    def test_one_word_more_or_fewer(self):
        for first, (words, kinds) in ROWS.items():
            for number in range(len(words)):
                self.check_refused_row(NoRow, " ".join([first, *words[:number]]))
            if first != "line":
                for more in ("a", "5", "", "[0,5)"):
                    for number in range(len(words) + 1):
                        self.check_refused_row(NoRow, " ".join([first, *words[:number], more, *words[number:]]))

    def test_blanks_in_front_and_behind(self):
        for first, (words, kinds) in ROWS.items():
            row = " ".join([first, *words])
            self.check_refused_row(NoRow, " " + row)
            self.check_refused_row(NoRow, "  " + row)
            if first != "line":
                self.check_refused_row(NoRow, row + " ")
                self.check_refused_row(NoRow, row + "  ")
                for number in range(len(words)):
                    given = [first, *words[:number], " " + words[number], *words[number + 1:]]
                    self.check_refused_row(NoRow, " ".join(given))

    def test_unknown_first_words(self):
        for first, (words, kinds) in ROWS.items():
            for other in (first.upper(), first.title(), first + "s", first[:-1], first + "\n", "\n" + first):
                if other not in ROWS:
                    self.check_refused_row(NoRow, " ".join([other, *words]))
        for row in ("", " ", "  ", "a", "help", "shows a", "a show", "show\ta", "show\na", "Desk", "say show a",
                    "x x x x", "gaps a [0,5)", "turn a", "line", "line\ta\t", "LINE a ", "lines a [0,1)=1", "Line a "):
            self.check_refused_row(NoRow, row)

    def test_things_that_are_no_texts(self):
        no_texts = [thing for thing in NO_NAMES if not isinstance(thing, str)]
        for thing in no_texts + [b"show a", ["show", "a"], ("show a",)]:
            self.check_refused_row(NoRow, thing)

    def test_the_second_blank_of_line(self):
        self.check_refused_row(NoRow, "line")
        self.check_refused_row(NoRow, "line a")
        self.check_refused_row(NoRow, "line new")
        self.check_refused_row(NoRow, "line A")
        self.check_refused_row(NoRow, "line ")
        self.check_refused_row(NoName, "line  ")
        self.check_refused_row(NoName, "line  a")
        self.check_refused_row(NoName, "line  a [0,1)=1")
        self.check_refused_row(NoText, "line a  ")
        self.check_refused_row(NoText, "line a  [0,1)=1")
        self.check_refused_row(NoText, "line a [0,1)=1 ")
        desk = desk_with("line a [0,1)=1")
        self.check_said(desk, "line a ", "ok")
        self.check_said(desk, "show a", "")

    def test_empty_words(self):
        for row, kind in (("back ", NoName), ("show ", NoName), ("move  5", NoName), ("move a ", NoText),
                          ("put a  5", NoText), ("put  [0,5) 5", NoName), ("put a [0,5) ", NoText),
                          ("mark a  5", NoName), ("where a ", NoName), ("join  a b sum", NoName),
                          ("join new a b ", NoText), ("same a ", NoName),
                          ("run a   ", NoText), ("gap a ", NoText), ("merge   ", NoName), ("widen a  ", NoText)):
            self.check_refused_row(kind, row)

    def test_each_word_that_is_refused(self):
        for first, (words, kinds) in ROWS.items():
            for number, kind in enumerate(kinds):
                for wrong, error in WRONG[kind]:
                    row = " ".join([first, *words[:number], wrong, *words[number + 1:]])
                    self.check_refused_row(error, row)

    def test_of_two_words_the_first_from_the_left(self):
        for first, (words, kinds) in ROWS.items():
            for one, other in itertools.combinations(range(len(words)), 2):
                for (wrong, error), behind in itertools.product(WRONG[kinds[one]], WRONG[kinds[other]][::3]):
                    given = list(words)
                    given[one], given[other] = wrong, behind[0]
                    self.check_refused(error, full_desk().say, " ".join([first, *given]))

    def test_what_the_stages_refuse(self):
        for row, kind in BEHIND:
            self.check_refused_row(kind, row)

    def test_words_go_ahead_of_what_the_stages_refuse(self):
        for row, behind in BEHIND:
            first, *words = row.split(" ")
            for number, kind in enumerate(ROWS[first][1]):
                for wrong, error in WRONG[kind]:
                    given = words[:number] + [wrong] + words[number + 1:]
                    self.check_refused(error, full_desk().say, " ".join([first, *given]))

    def test_a_name_that_is_needed_goes_ahead_of_other_words(self):
        for row, kind in (("put zz [3,3) x", NoName), ("put a [3,3) x", Empty), ("put a [3,3 x", NoText),
                          ("mark a A x", NoName), ("mark a m x", NoText), ("mark zz A x", NoName),
                          ("join A zz b x", NoName), ("join new a b x", NoText), ("run a 0 0 x", NoText),
                          ("widen a x -1", NoText), ("stretch a 0 x", NoText), ("stretch a 0 0", NoShare),
                          ("line A x", NoName), ("line a x", NoText), ("where a A", NoName), ("where zz m", NoName),
                          ("merge A a b", NoName), ("merge new a zz", NoName)):
            self.check_refused_row(kind, row)

    def test_nothing_stands_at_first(self):
        for first, (words, kinds) in ROWS.items():
            if first != "line":
                self.check_refused(NoName, Desk().say, " ".join([first, *words]))


class PlainLine:
    """The deeds and marks of a line, gone through at each place; begun tells what stood at the line's beginning."""

    def __init__(self, begun):
        self.begun = begun
        self.events = []
        self.undone = []

    def tell(self, place):
        return tell_back(self.begun, self.events, place)

    def as_it_is(self):
        """What it tells now, whatever is done to it afterwards."""
        begun, events = self.begun, list(self.events)
        return lambda place: tell_back(begun, events, place)

    def do(self, event):
        self.events.append(event)
        self.undone = []

    def marks(self):
        places = {}
        for event in self.events:
            if event[0] == "mark":
                places[event[1]] = event[2]
            else:
                places = {mark: None if place is None else plain_went(event, place) for mark, place in places.items()}
        return places


def tell_back(begun, events, place):
    for event in reversed(events):
        if event[0] == "mark":
            continue
        came = plain_came(event, place)
        if came is None:
            return event[2] if event[0] == "put" else None
        place = came
    return begun(place)


def plain_way(way, one, other):
    if way == "first":
        return other if one is None else one
    if way == "both":
        return None if one is None or other is None else one
    if way == "less":
        return one if other is None else None
    return None if one is None and other is None else (one or 0) + (other or 0)


def words_of_event(name, event):
    kind, *made_of = event
    if kind == "put":
        (low, behind), value = made_of
        span = ("(.." if low is None else f"[{low}") + "," + ("..)" if behind is None else f"{behind - 1}]")
        return f"take {name} {span}" if value is None else f"put {name} {span} {value}"
    return " ".join([kind, name, *[str(one) for one in made_of]])


class TestTheWhole(DeskTest):

    def some_event(self, chance):
        kind = chance.choice(["put", "put", "put", "widen", "narrow", "move", "stretch", "mirror", "mark"])
        if kind == "put":
            low, behind = sorted(chance.sample(range(-12, 13), 2))
            low, behind = chance.choice([(low, behind), (low, behind), (low, behind), (None, behind), (low, None)])
            return ("put", (low, behind), chance.choice([None, 0, 1, 2]))
        if kind in ("widen", "narrow"):
            return (kind, chance.randrange(-10, 11), chance.randrange(0, 5))
        if kind == "move":
            return (kind, chance.randrange(-6, 7))
        if kind == "stretch":
            return (kind, *chance.choice([(2, 1), (1, 2), (3, 2), (2, 3), (1, 1), (1, 3)]))
        if kind == "mark":
            return (kind, chance.choice(["m", "o", "mm"]), chance.randrange(-12, 13))
        return (kind,)

    def check_line(self, desk, name, plain):
        pieces = read_map(desk.say("show " + name))
        self.assertTrue(is_map(pieces))
        for place in range(-30, 31):
            self.assertEqual(told_at(pieces, place), plain.tell(place))
        for place in (-31, -3, 0, 5, 31):
            told = plain.tell(place)
            self.check_said(desk, f"at {name} {place}", "none" if told is None else str(told))
        marks = plain.marks()
        for mark in ("m", "o", "mm"):
            if mark in marks:
                place = marks[mark]
                self.check_said(desk, f"where {name} {mark}", "lost" if place is None else str(place))
            else:
                self.check_refused(NoMark, desk.say, f"where {name} {mark}")

    def go_back_or_again(self, desk, name, plain, row):
        taken, given = (plain.events, plain.undone) if row == "back" else (plain.undone, plain.events)
        if taken:
            given.append(taken.pop())
            self.check_said(desk, f"{row} {name}", "ok")
        else:
            self.check_refused(NoDeed, desk.say, f"{row} {name}")

    def join(self, desk, lines, chance):
        new, one, other = chance.choice("abc"), chance.choice("abc"), chance.choice("abc")
        way = chance.choice(["first", "both", "less", "sum"])
        tell, other_tell = lines[one].as_it_is(), lines[other].as_it_is()
        lines[new] = PlainLine(lambda place: plain_way(way, tell(place), other_tell(place)))
        self.check_said(desk, f"join {new} {one} {other} {way}", "ok")

    def test_rows_of_all_kinds(self):
        for seed in range(12):
            chance = random.Random(seed)
            desk = desk_with("line a ", "line b [0,3)=1 each 5 times 2", "line c (..,2)=2")
            lines = {
                "a": PlainLine(lambda place: None),
                "b": PlainLine(lambda place: 1 if place in (0, 1, 2, 5, 6, 7) else None),
                "c": PlainLine(lambda place: 2 if place < 2 else None),
            }
            joins = 0
            for number in range(60):
                name = chance.choice("abc")
                choice = chance.randrange(20)
                if choice < 4:
                    self.go_back_or_again(desk, name, lines[name], chance.choice(["back", "back", "again"]))
                elif choice == 4 and joins < 4:
                    joins += 1
                    self.join(desk, lines, chance)
                else:
                    event = self.some_event(chance)
                    lines[name].do(event)
                    self.check_said(desk, words_of_event(name, event), "ok")
                self.check_line(desk, name, lines[name])
            for name in "abc":
                self.check_line(desk, name, lines[name])

    def test_all_taken_back_and_done_again(self):
        for seed in range(6):
            chance = random.Random(100 + seed)
            desk, plain = desk_with("line a (..,0)=1"), PlainLine(lambda place: 1 if place < 0 else None)
            for number in range(25):
                event = self.some_event(chance)
                plain.do(event)
                desk.say(words_of_event("a", event))
            for row in ["back"] * 26 + ["again"] * 26 + ["back"] * 9:
                self.go_back_or_again(desk, "a", plain, row)
                self.check_line(desk, "a", plain)


if __name__ == "__main__":
    unittest.main()
