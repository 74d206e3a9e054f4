"""What several test files need: maps told place by place, and checks of the kinds of what is told."""

import itertools
import unittest

from spanmap.deeds import Mirror, Move, Narrow, Put, Stretch, Widen
from spanmap.errors import SpanError

LARGE = 10 ** 500 - 1
NO_NAMES = [
    "", "A", "Mark", "a1", "a b", " a", "a ", "a\n", "abcdefghi", "-", "_", "1",
    None, 0, 5, True, [], ["a"], ("a",), {}, b"a", 1.5,
]


def spans_within(first, last):
    """All spans whose ends are places from first to last, or None."""
    lows = [None, *range(first, last + 1)]
    behinds = [*range(first, last + 1), None]
    return [(low, behind) for low in lows for behind in behinds if low is None or behind is None or low < behind]


def lies_in(span, place):
    low, behind = span
    if low is not None and place < low:
        return False
    return behind is None or place < behind


def told_at(pieces, place):
    values = [value for low, behind, value in pieces if lies_in((low, behind), place)]
    return values[0] if values else None


def plain_map(tell, first, last):
    """The map of tell, found place by place; what it tells at first and at last goes on to that side."""
    pieces = []
    low = None
    for place in range(first, last + 1):
        if place < last and tell(place + 1) == tell(place):
            continue
        if tell(place) is not None:
            pieces.append((low, None if place == last else place + 1, tell(place)))
        low = place + 1
    return pieces


def small_maps(inner, values=(None, 1, 2)):
    """All maps of these values whose ends are among the places from 0 to inner."""
    maps = []
    for told in itertools.product(values, repeat=inner + 2):
        maps.append(plain_map(lambda place: told[min(max(place, -1), inner) + 1], -1, inner))
    return maps


def plain_wheel(told):
    """The wheel that tells these values, one for each place of a turn, found by trying each lesser turn."""
    turns = [turn for turn in range(1, len(told) + 1) if len(told) % turn == 0]
    turn = [turn for turn in turns if told == told[:turn] * (len(told) // turn)][0]
    return (turn, plain_map(lambda place: told[place] if 0 <= place < turn else None, -1, turn))


def small_wheels(most, values=(None, 1, 2)):
    """All wheels of these values with turns of up to most places."""
    wheels = []
    for turn in range(1, most + 1):
        for told in itertools.product(values, repeat=turn):
            wheel = plain_wheel(told)
            if wheel[0] == turn:
                wheels.append(wheel)
    return wheels


def many_pieces(count, start=0, width=3, gap=2):
    """A map of so many pieces, parted by gaps, with values that come again."""
    step = width + gap
    return [(start + step * k, start + step * k + width, k % 7 - 3) for k in range(count)]


def plain_came(deed, place):
    """Of a deed told as a tuple such as ("move", 3): from where the value at the place came."""
    kind, *made_of = deed
    if kind == "put":
        return None if lies_in(made_of[0], place) else place
    if kind == "widen":
        at, many = made_of
        if place in range(at, at + many):
            return None
        return place if place < at else place - many
    if kind == "narrow":
        at, many = made_of
        return place if place < at else place + many
    if kind == "move":
        return place - made_of[0]
    if kind == "stretch":
        top, bottom = made_of
        return place * bottom // top
    return -place


def plain_went(deed, place):
    kind, *made_of = deed
    if kind == "put":
        return place
    if kind == "widen":
        at, many = made_of
        return place if place < at else place + many
    if kind == "narrow":
        at, many = made_of
        if place in range(at, at + many):
            return None
        return place if place < at else place - many
    if kind == "move":
        return place + made_of[0]
    if kind == "stretch":
        top, bottom = made_of
        close = place * top // bottom
        tries = [other for other in range(close - 3, close + 4) if plain_came(deed, other) == place]
        return tries[0] if tries else None
    return -place


def made_deed(deed):
    kind, *made_of = deed
    makers = {"put": Put, "widen": Widen, "narrow": Narrow, "move": Move, "stretch": Stretch, "mirror": Mirror}
    return makers[kind](*made_of)


class SpanTest(unittest.TestCase):

    def check_same(self, told, asked):
        self.assertEqual(told, asked)
        self.assertEqual(kinds_of(told), kinds_of(asked))

    def check_refused(self, kind, asked, *given):
        with self.assertRaises(SpanError) as taken:
            asked(*given)
        self.assertIs(type(taken.exception), kind)
        return taken.exception

    def check_kept(self, asked, given, *rest):
        """A list that is given stays as it was, and what is told is another list, told anew each time."""
        ahead = list(given)
        told = asked(given, *rest)
        self.assertEqual(given, ahead)
        self.assertIs(type(told), list)
        self.assertIsNot(told, given)
        first = list(told)
        told.append((7, 8, 9))
        told.reverse()
        self.assertEqual(given, ahead)
        self.check_same(asked(given, *rest), first)

    def check_belongs(self, module, names):
        for name in names:
            self.assertEqual(getattr(module, name).__module__, module.__name__, name)


def kinds_of(thing):
    if isinstance(thing, (list, tuple)):
        return (type(thing), [kinds_of(one) for one in thing])
    return type(thing)
