import itertools
import re
import unittest

from helper import LARGE, SpanTest, many_pieces, plain_map, small_maps, spans_within
from spanmap import texts
from spanmap.errors import Empty, NoRule, NoText, SpanError, TooMuch
from spanmap.fewest import fewest
from spanmap.rules import laid
from spanmap.texts import read_map, read_number, read_span, show_map, show_rules, show_span

NO_TEXTS = [None, 0, 5, -3, True, 1.5, b"5", b"[3,9)", [], ["5"], ["[3,9)"], (), (3, 9), ("5",), {}, {"5": 1}]
SIXTY = "1234567890" * 6
SIGNS = "[](),.-+=; 0159aetx\n\t_"
NUMBER = "(0|-?[1-9][0-9]{0,59})"
SPAN = rf"(\(\.\.|[\[(]{NUMBER}),(\.\.\)|{NUMBER}[\])])"
ITEM = rf"{SPAN}={NUMBER}( each {NUMBER} times {NUMBER})?"


def plain_number(text):
    if not re.fullmatch(NUMBER, text):
        raise NoText
    return int(text)


def plain_span(text):
    """Of a text whose form is known to be right."""
    low_text, high_text = text.split(",")
    low = None if low_text == "(.." else int(low_text[1:]) + (1 if low_text[0] == "(" else 0)
    behind = None if high_text == "..)" else int(high_text[:-1]) + (1 if high_text[-1] == "]" else 0)
    if low is not None and behind is not None and low >= behind:
        raise Empty
    return (low, behind)


def read_plain_span(text):
    if not re.fullmatch(SPAN, text):
        raise NoText
    return plain_span(text)


def plain_item(item):
    """The spans that an item gives its value to, and the value."""
    if not re.fullmatch(ITEM, item):
        raise NoText
    span_text, rest = item.split("=")
    low, behind = plain_span(span_text)
    words = rest.split(" ")
    if len(words) == 1:
        return [((low, behind), int(words[0]))]
    step, times = int(words[2]), int(words[4])
    if low is None or behind is None or times not in range(1, 101):
        raise NoRule
    if step != 0 if times == 1 else step <= behind - low:
        raise NoRule
    return [((low + k * step, behind + k * step), int(words[0])) for k in range(times)]


def read_plain_map(text):
    rows = []
    for item in text.split("; ") if text else []:
        rows.extend(plain_item(item))
    if len(rows) > 300:
        raise TooMuch

    def tell(place):
        told = None
        for (low, behind), value in rows:
            if (low is None or low <= place) and (behind is None or place < behind):
                told = value
        return told

    ends = [end for span, value in rows for end in span if end is not None]
    return plain_map(tell, min(ends, default=0) - 1, max(ends, default=0) + 1)


def outcome(read, text):
    """What is told, or the class of what is refused."""
    try:
        return read(text)
    except SpanError as error:
        return type(error)


def one_sign_off(text):
    """One sign more, fewer or other at each place."""
    texts_off = [text[:k] + text[k + 1:] for k in range(len(text))]
    for sign in SIGNS:
        texts_off.extend([text[:k] + sign + text[k:] for k in range(len(text) + 1)])
        texts_off.extend([text[:k] + sign + text[k + 1:] for k in range(len(text))])
    return sorted(set(texts_off))


class TextTest(SpanTest):

    def check_read(self, read, plain, text):
        asked = outcome(plain, text)
        if isinstance(asked, type):
            self.check_refused(asked, read, text)
        else:
            self.check_same(read(text), asked)


class TestReadNumber(TextTest):

    def test_the_names_belong_to_the_texts_module(self):
        self.check_belongs(texts, ["read_number", "read_span", "read_map", "show_span", "show_map", "show_rules"])

    def test_numbers(self):
        for text, number in (("0", 0), ("1", 1), ("9", 9), ("10", 10), ("-1", -1), ("-9", -9), ("-10", -10),
                             ("1234567890", 1234567890), ("100200", 100200), ("-987", -987)):
            self.check_same(read_number(text), number)

    def test_sixty_figures(self):
        self.check_same(read_number(SIXTY), int(SIXTY))
        self.check_same(read_number("-" + SIXTY), -int(SIXTY))
        self.check_same(read_number("9" * 60), 10 ** 60 - 1)
        self.check_same(read_number("-" + "9" * 60), 1 - 10 ** 60)
        self.check_same(read_number("9" * 59), 10 ** 59 - 1)

    def test_sixty_one_figures(self):
        for text in (SIXTY + "1", "-" + SIXTY + "1", "9" * 61, "1" * 62, "-" + "1" * 62, "1" * 500, "1" * 5000):
            self.check_refused(NoText, read_number, text)

    def test_what_writes_none(self):
        for text in ("", "-", "--1", "-0", "+3", "+0", "007", "00", "01", "-01", "-00", " ", " 1", "1 ", "1 2", "- 1",
                     "1-", "1-2", "1_000", "1,000", "1.0", ".", "..", "1e3", "0x1", "a", "one", "1\n", "\n1", "1\t",
                     "0" * 60, "-" + "0" * 60, "0" + SIXTY[1:], "None", "True", "[1", "1]", "(1", "1)", "1=", "=1"):
            self.check_refused(NoText, read_number, text)

    def test_all_short_texts(self):
        for many in range(5):
            for signs in itertools.product("-+019 a", repeat=many):
                self.check_read(read_number, plain_number, "".join(signs))

    def test_one_sign_off(self):
        for text in ("0", "7", "-7", "10", "-105", SIXTY, "-" + SIXTY, SIXTY[1:]):
            for other in one_sign_off(text):
                self.check_read(read_number, plain_number, other)

    def test_things_of_other_kinds(self):
        for thing in NO_TEXTS:
            self.check_refused(NoText, read_number, thing)


class TestReadSpan(TextTest):

    def test_spans(self):
        for text, span in (("[3,9)", (3, 9)), ("(2,8]", (3, 9)), ("[3,8]", (3, 9)), ("(2,9)", (3, 9)),
                           ("(..,9)", (None, 9)), ("(..,8]", (None, 9)), ("[3,..)", (3, None)), ("(2,..)", (3, None)),
                           ("(..,..)", (None, None)), ("[-3,-1)", (-3, -1)), ("[0,0]", (0, 1)), ("(-1,1)", (0, 1)),
                           ("(-1,0]", (0, 1)), ("[0,1)", (0, 1))):
            self.check_same(read_span(text), span)

    def test_sixty_and_sixty_one_figures(self):
        large = int(SIXTY)
        self.check_same(read_span("[-" + SIXTY + "," + SIXTY + "]"), (-large, large + 1))
        self.check_same(read_span("(-" + SIXTY + "," + SIXTY + ")"), (1 - large, large))
        for text in ("[-1" + SIXTY + ",5)", "[5," + SIXTY + "1)", "(..," + SIXTY + "1]", "(" + SIXTY + "1,..)"):
            self.check_refused(NoText, read_span, text)

    def test_no_place_between(self):
        for text in ("[3,3)", "(3,3]", "(3,3)", "(3,4)", "[4,3]", "[9,3)", "(8,3]", "(0,1)", "[0,0)", "[0,-1]",
                     "(" + SIXTY + ",-" + SIXTY + ")"):
            self.check_refused(Empty, read_span, text)

    def test_empty_only_once_both_ends_are_read(self):
        for text in ("[9,3", "9,3)", "[9,x)", "[x,3)", "[9,03)", "[09,3)", "[9,-0)", "[9, 3)", "[9 ,3)", "[9,3) ",
                     " [9,3)", "[9,3),", "[9;3)", "[9,3}", "{9,3)", "[9,..]", "[..,3)", "[9,3))", "[[9,3)", "[3,3,3)"):
            self.check_refused(NoText, read_span, text)

    def test_what_writes_none(self):
        for text in ("", ",", "[,)", "[3,)", "[,9)", "[3,9", "3,9", "39", "[39)", "[3..9)", "[3,,9)", "(...,9)",
                     "(.,9)", "..,9)", "[..,9)", "(..,..]", "(..,..", "(,..)", "(..", "..)", "(..)", "[3,..", "[3,...)",
                     "[3,.)", "]3,9(", ")3,9(", "[3,9[", "]3,9]", "[+3,9)", "[3,+9)", "[-0,9)", "[3,9)=1", "(..9)",
                     "(..,)", "(..-3,9)", "[3,9..)", "(3..,9)", "None", "(None,9)", "\n[3,9)", "[3,9)\n"):
            self.check_refused(NoText, read_span, text)

    def test_all_short_texts(self):
        for many in range(3):
            for low, high in itertools.product(itertools.product("[(.1-", repeat=many), repeat=2):
                for close in ("", "]", ")", ".)", "..)"):
                    self.check_read(read_span, read_plain_span, "".join(low) + "," + "".join(high) + close)

    def test_one_sign_off(self):
        for text in ("[3,9)", "(2,8]", "(..,9)", "[3,..)", "(..,..)", "[-10,10]", "(-1,0]", f"[{SIXTY},{SIXTY}]"):
            for other in one_sign_off(text):
                self.check_read(read_span, read_plain_span, other)

    def test_things_of_other_kinds(self):
        for thing in NO_TEXTS:
            self.check_refused(NoText, read_span, thing)


class TestShowSpan(TextTest):

    def test_shown(self):
        for span, text in (((3, 9), "[3,9)"), ((-3, 0), "[-3,0)"), ((None, 9), "(..,9)"), ((0, None), "[0,..)"),
                           ((None, None), "(..,..)"), ((None, 0), "(..,0)")):
            self.check_same(show_span(span), text)

    def test_read_shown_and_read_again(self):
        for span in spans_within(-3, 3) + [(-int(SIXTY), int(SIXTY))]:
            self.check_same(read_span(show_span(span)), span)
        for low, high in itertools.product(("(..", "[3", "(3", "[-3"), ("..)", "9)", "9]", "5]")):
            span = read_span(low + "," + high)
            self.check_same(read_span(show_span(span)), span)

    def test_numbers_of_any_length(self):
        self.check_same(show_span((-LARGE, LARGE)), "[-" + "9" * 500 + "," + "9" * 500 + ")")


class TestReadMap(TextTest):

    def test_no_item(self):
        self.check_same(read_map(""), [])

    def test_one_item(self):
        self.check_same(read_map("[3,9)=5"), [(3, 9, 5)])
        self.check_same(read_map("(2,8]=-5"), [(3, 9, -5)])
        self.check_same(read_map("(..,..)=0"), [(None, None, 0)])
        self.check_same(read_map("(..,9)=" + SIXTY), [(None, 9, int(SIXTY))])

    def test_items_with_each(self):
        self.check_same(read_map("[0,2)=5 each 3 times 3"), [(0, 2, 5), (3, 5, 5), (6, 8, 5)])
        self.check_same(read_map("[0,2)=5 each 0 times 1"), [(0, 2, 5)])
        self.check_same(read_map("(-1,1]=5 each 3 times 2"), [(0, 2, 5), (3, 5, 5)])
        self.check_same(read_map("[0,0]=5 each 2 times 100"), [(2 * k, 2 * k + 1, 5) for k in range(100)])
        step = int(SIXTY)
        self.check_same(read_map("[0,1)=5 each " + SIXTY + " times 2"), [(0, 1, 5), (step, step + 1, 5)])

    def test_later_over_earlier(self):
        self.check_same(read_map("[0,9)=1; [3,5)=2"), [(0, 3, 1), (3, 5, 2), (5, 9, 1)])
        self.check_same(read_map("[3,5)=2; [0,9)=1"), [(0, 9, 1)])
        self.check_same(read_map("(..,..)=1; [0,1)=2 each 2 times 2; [1,3)=3"),
                        [(None, 0, 1), (0, 1, 2), (1, 3, 3), (3, None, 1)])
        self.check_same(read_map("[0,3)=1; [3,5)=1"), [(0, 5, 1)])
        self.check_same(read_map("[3,5)=1; [0,3)=1"), [(0, 5, 1)])

    def test_many_items(self):
        items = ["[0,9)=1", "(..,2)=2", "[4,..)=0", "[1,2)=3 each 2 times 3", "(-3,5]=1 each 9 times 2"]
        for many in range(4):
            for given in itertools.product(items, repeat=many):
                self.check_read(read_map, read_plain_map, "; ".join(given))

    def test_one_sign_off(self):
        for text in ("[3,9)=5", "(..,8]=-15", "[0,2)=5 each 3 times 2", "[0,9)=1; (3,5]=2", "[0,2)=5 each 0 times 1",
                     "[1,2)=1 each 2 times 9; (..,0)=5"):
            for other in one_sign_off(text):
                self.check_read(read_map, read_plain_map, other)

    def test_one_word_off(self):
        words = "[0,2)=5 each 3 times 2".split(" ")
        for number in range(5):
            for other in ("", "each", "times", "3", "[0,2)=5", "Each", "0", "-3", "101"):
                for given in (words[:number] + [other] + words[number + 1:], words[:number] + [other] + words[number:],
                              words[:number], words[:number] + words[number + 1:]):
                    self.check_read(read_map, read_plain_map, " ".join(given))

    def test_what_is_no_item(self):
        for text in (
                " ", ";", "; ", "[3,9)", "=5", "[3,9)=", "[3,9)==5", "[3,9)=5=5", "[3,9) =5", "[3,9)= 5", "[3,9)=5 ",
                " [3,9)=5", "[3,9)=5;", "[3,9)=5; ", "; [3,9)=5", "[3,9)=5;[9,11)=6", "[3,9)=5;  [9,11)=6",
                "[3,9)=5 ; [9,11)=6", "[3,9)=5; ; [9,11)=6", "[3,9)=5, [9,11)=6", "[3,9)=x", "[3,9)=+5", "[3,9)=05",
                "[3,9)=-0", "[3,9)=None", "[3,9)=" + SIXTY + "1", "[3,9)=5 each 7", "[3,9)=5 times 2",
                "[3,9)=5 times 2 each 7", "[3,9)=5 each 7 times", "[3,9)=5 each  7 times 2", "[3,9)=5 each 7 times 2 ",
                "[3,9)=5 each 7 times 02", "[3,9)=5 each 7 times +2", "[3,9)=5 each x times 2",
                "[3,9)=5 each " + SIXTY + "1 times 2", "[3,9)=5 each 7 times " + SIXTY + "1",
                "[3,9)=5 each 7 times 2 times 2", "each 7 times 2", "5=[3,9)", "[3,9)=5\n", "none"):
            self.check_refused(NoText, read_map, text)

    def test_no_place_between(self):
        for text in ("[3,3)=5", "(3,4)=5", "[9,3]=5", "[3,3)=5 each 7 times 2", "[9,3)=5 each 0 times 1"):
            self.check_refused(Empty, read_map, text)

    def test_what_makes_no_rule(self):
        for text in ("(..,9)=5 each 7 times 2", "[3,..)=5 each 7 times 2", "(..,..)=5 each 7 times 2",
                     "(..,9)=5 each 0 times 1", "[3,..)=5 each 0 times 1", "[3,9)=5 each 6 times 2",
                     "[3,9)=5 each 5 times 2", "[3,9)=5 each 0 times 2", "[3,9)=5 each -7 times 2",
                     "[3,9)=5 each 7 times 1", "[3,9)=5 each -7 times 1", "[3,9)=5 each 7 times 0",
                     "[3,9)=5 each 0 times 0", "[3,9)=5 each 7 times -1", "[3,9)=5 each 7 times 101",
                     "[3,9)=5 each 7 times " + SIXTY, "[3,9)=5 each 1 times 100"):
            self.check_refused(NoRule, read_map, text)

    def test_two_refusals_within_one_item(self):
        for text in ("[3,3)=x", "[9,3)=5 each 7", "[3,3)=05 each 7 times 2", "[3,3)=5 each x times 2",
                     "[3,3)=5 each 7 times 02", "(..,9)=5 each 7 times x", "(..,9)=x each 7 times 2",
                     "[3,9)=5 each 6 times x", "[3,9)=5 each x times 101", "[3,9)=x each 7 times 0", "[9,3=5",
                     "[3,3)=x each 0 times 0", "(..,..]=5 each 7 times 2", "[3,3)=5 each 0 times x"):
            self.check_refused(NoText, read_map, text)
        for text in ("[3,3)=5 each 0 times 0", "[3,3)=5 each -7 times 2", "[9,3)=5 each 7 times 101",
                     "(3,4)=5 each 0 times 2"):
            self.check_refused(Empty, read_map, text)

    def test_two_refusals_in_two_items(self):
        refused = (("[3,9)=x", NoText), ("", NoText), ("[3,3)=5", Empty), ("[3,3)=5 each 7 times 2", Empty),
                   ("(..,9)=5 each 7 times 2", NoRule), ("[3,9)=5 each 6 times 2", NoRule))
        good = "[0,1)=5 each 2 times 100"
        for (one, kind), (other, other_kind) in itertools.product(refused, repeat=2):
            for items in ((one, other), (good, one, other), (one, good, other), (one, other, good),
                          (good, good, good, one, other, good), (good, good, good, good, one, other)):
                self.check_refused(kind, read_map, "; ".join(items))

    def test_too_much(self):
        hundred, once, one_each = "[0,1)=5 each 2 times 100", "[3,9)=1", "[3,9)=1 each 0 times 1"
        for items in ([hundred] * 3 + [once], [once] + [hundred] * 3, [hundred] * 3 + [one_each], [hundred] * 4,
                      ["[0,1)=5 each 2 times 99"] * 3 + [once] * 4, [once] * 301,
                      [hundred] * 2 + ["[0,1)=5 each 2 times 99", once, "(..,..)=2"]):
            self.check_refused(TooMuch, read_map, "; ".join(items))

    def test_three_hundred_is_not_too_much(self):
        hundred, once = "[0,1)=5 each 2 times 100", "[3,9)=1"
        asked = [(2 * k, 2 * k + 1, 5) for k in range(100)]
        self.check_same(read_map("; ".join([hundred] * 3)), asked)
        self.check_same(read_map("; ".join([once, "[0,1)=5 each 2 times 99", hundred, hundred]))[0], (0, 1, 5))
        self.check_same(read_map("; ".join([once] * 300)), [(3, 9, 1)])
        pieces = many_pieces(300)
        self.check_same(read_map(show_map(pieces)), pieces)

    def test_too_much_comes_behind_all_others(self):
        much = ["[0,1)=5 each 2 times 100"] * 4
        for item, kind in (("[3,9)=x", NoText), ("[3,3)=5", Empty), ("(..,9)=5 each 7 times 2", NoRule),
                           ("[3,9)=5 each 7 times 1", NoRule), ("[3,9)=5 each 7 times 400", NoRule)):
            for number in range(5):
                self.check_refused(kind, read_map, "; ".join(much[:number] + [item] + much[number:]))

    def test_things_of_other_kinds(self):
        for thing in NO_TEXTS:
            self.check_refused(NoText, read_map, thing)

    def test_a_told_list_is_for_the_asker_to_keep(self):
        for text, asked in (("", []), ("[3,9)=5", [(3, 9, 5)])):
            read_map(text).append((20, 30, 1))
            self.check_same(read_map(text), asked)


class TestShow(TextTest):

    def test_maps(self):
        for pieces, text in (([], ""), ([(3, 9, 5)], "[3,9)=5"), ([(None, None, 0)], "(..,..)=0"),
                             ([(None, -3, -5), (-3, 0, 1), (4, None, 2)], "(..,-3)=-5; [-3,0)=1; [4,..)=2")):
            self.check_same(show_map(pieces), text)

    def test_shown_maps_are_read_as_the_same(self):
        for pieces in small_maps(4, (None, 0, -1)):
            self.check_same(read_map(show_map(pieces)), pieces)
        pieces = [(-int(SIXTY), int(SIXTY), 10 ** 60 - 1)]
        self.check_same(read_map(show_map(pieces)), pieces)

    def test_rules(self):
        for rules, text in (([], ""), ([(3, 9, 0, 1, 5)], "[3,9)=5"), ([(3, 9, 7, 2, 5)], "[3,9)=5 each 7 times 2"),
                            ([(3, 4, 2, 100, -5), (-1, 0, 0, 1, 0)], "[3,4)=-5 each 2 times 100; [-1,0)=0")):
            self.check_same(show_rules(rules), text)

    def test_shown_rules_are_read_as_the_map_they_make(self):
        choices = [(0, 3, 0, 1, 1), (1, 2, 3, 3, 2), (-2, 1, 4, 2, 1), (0, 1, 2, 100, 3), (2, 8, 0, 1, 2)]
        for many in range(3):
            for rules in itertools.product(choices, repeat=many):
                self.check_same(read_map(show_rules(list(rules))), laid(list(rules)))
        for pieces in ([(0, 1, 1), (5, 6, 1), (10, 11, 1)], [(0, 1, 1), (5, 6, 2), (10, 11, 1)]):
            self.check_same(read_map(show_rules(fewest(pieces))), pieces)

    def test_numbers_of_any_length(self):
        nines = "9" * 500
        self.check_same(show_map([(-LARGE, LARGE, LARGE)]), "[-" + nines + "," + nines + ")=" + nines)
        self.check_same(show_rules([(-LARGE, -1, LARGE, 2, -LARGE)]), "[-" + nines + ",-1)=-" + nines +
                        " each " + nines + " times 2")

    def test_what_is_given_stays(self):
        pieces, rules = [(3, 9, 5), (9, None, 6)], [(3, 9, 7, 2, 5), (0, 1, 0, 1, 1)]
        for turn in range(2):
            self.check_same(show_map(pieces), "[3,9)=5; [9,..)=6")
            self.check_same(show_rules(rules), "[3,9)=5 each 7 times 2; [0,1)=1")
        self.assertEqual((pieces, rules), ([(3, 9, 5), (9, None, 6)], [(3, 9, 7, 2, 5), (0, 1, 0, 1, 1)]))


if __name__ == "__main__":
    unittest.main()
