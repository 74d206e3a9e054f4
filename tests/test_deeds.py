import unittest

from helper import LARGE, SpanTest, made_deed, many_pieces, plain_came, plain_map, plain_went, small_maps, told_at
from spanmap import deeds
from spanmap.deeds import Deed, Mirror, Move, Narrow, Put, Stretch, Widen
from spanmap.errors import NoCount, NoShare

SIX = [Put, Widen, Narrow, Move, Stretch, Mirror]
KINDS = [
    ("put", (0, 2), 5), ("put", (-1, 1), None), ("put", (None, 1), 1), ("put", (1, None), 0), ("put", (None, None), 2),
    ("put", (0, 1), 1), ("put", (None, None), None),
    ("widen", 0, 2), ("widen", 1, 1), ("widen", -1, 3), ("widen", -5, 2), ("widen", 5, 2), ("widen", 1, 0),
    ("narrow", 0, 2), ("narrow", 1, 1), ("narrow", -1, 3), ("narrow", -5, 2), ("narrow", 5, 2), ("narrow", 1, 0),
    ("move", 3), ("move", -2), ("move", 0),
    ("stretch", 1, 1), ("stretch", 2, 1), ("stretch", 3, 1), ("stretch", 1, 2), ("stretch", 1, 3), ("stretch", 3, 2),
    ("stretch", 2, 3), ("stretch", 4, 2), ("stretch", 1, 1000), ("stretch", 5, 3),
    ("mirror",),
]
# Ends below 0, at 0 and above it; what stands at the outermost places goes on without end.
MAPS = [
    *[[(None if low is None else low - 2, None if behind is None else behind - 2, value)
       for low, behind, value in pieces] for pieces in small_maps(4, (None, 1))],
    *small_maps(2),
    [(-3, -1, 1), (-1, 1, 2), (1, 2, 1), (3, 4, 2)],
    [(None, -2, 2), (-2, 2, 1), (2, None, 2)],
]
FAR = 10 ** 499


class TestKindsOfDeed(SpanTest):

    def test_each_stands_straight_under_deed(self):
        for kind in SIX:
            self.assertEqual(kind.__bases__, (Deed,))
            for other in SIX:
                self.assertEqual(issubclass(kind, other), kind is other)
        self.assertEqual(Deed.__bases__, (object,))
        self.assertIs(type(Deed()), Deed)

    def test_each_belongs_to_the_deeds_module(self):
        self.check_belongs(deeds, ["Deed", "Put", "Widen", "Narrow", "Move", "Stretch", "Mirror"])

    def test_fill(self):
        self.check_same(Put((0, 3), 5).fill, 5)
        self.check_same(Put((0, 3), 0).fill, 0)
        self.assertIsNone(Put((0, 3), None).fill)
        for deed in (Widen(0, 3), Narrow(0, 3), Move(3), Stretch(3, 2), Mirror()):
            self.assertIsNone(deed.fill)

    def test_each_deed_keeps_its_own(self):
        one, other = Put((0, 3), 5), Put((7, 9), 6)
        self.assertEqual((one.fill, other.fill), (5, 6))
        self.assertEqual((one.came(1), other.came(1), one.came(8), other.came(8)), (None, 1, 8, None))
        moves = [Move(1), Move(20)]
        self.assertEqual([deed.went(0) for deed in moves], [1, 20])


class TestRefusals(SpanTest):

    def test_many_below_nought(self):
        for kind in (Widen, Narrow):
            for at in (-5, 0, 5, LARGE):
                for many in (-1, -2, -1000, -LARGE):
                    self.check_refused(NoCount, kind, at, many)

    def test_many_from_nought_on(self):
        for kind in (Widen, Narrow):
            for at in (-LARGE, -1, 0, 1, LARGE):
                for many in (0, 1, 2, 1001, LARGE):
                    self.assertIsInstance(kind(at, many), Deed)

    def test_shares_that_are_none(self):
        for wrong in (0, -1, -1000, 1001, 1002, LARGE, -LARGE):
            for other in (1, 2, 1000, wrong):
                self.check_refused(NoShare, Stretch, wrong, other)
                self.check_refused(NoShare, Stretch, other, wrong)

    def test_shares_from_one_to_a_thousand(self):
        for top in (1, 2, 999, 1000):
            for bottom in (1, 2, 999, 1000):
                self.assertIsInstance(Stretch(top, bottom), Deed)

    def test_nothing_else_is_refused(self):
        for far in (0, 1, -1, 1001, -1001, LARGE, -LARGE):
            self.assertIsInstance(Move(far), Deed)
        for span in ((None, None), (None, 0), (0, None), (-LARGE, LARGE)):
            for value in (None, 0, -1, LARGE, -LARGE):
                self.assertIsInstance(Put(span, value), Deed)


class TestCameAndWent(SpanTest):

    def check_came(self, deed, asked):
        for place, came in asked.items():
            self.check_same(deed.came(place), came)

    def check_went(self, deed, asked):
        for place, went in asked.items():
            self.check_same(deed.went(place), went)

    def test_put(self):
        self.check_came(Put((3, 6), 1), {-FAR: -FAR, 2: 2, 3: None, 4: None, 5: None, 6: 6, FAR: FAR})
        self.check_came(Put((None, 6), 1), {-FAR: None, 5: None, 6: 6, FAR: FAR})
        self.check_came(Put((3, None), None), {-FAR: -FAR, 2: 2, 3: None, FAR: None})
        self.check_came(Put((None, None), 0), {-FAR: None, 0: None, FAR: None})
        for span in ((3, 6), (None, 6), (3, None), (None, None)):
            for value in (None, 0, 4):
                self.check_went(Put(span, value), {place: place for place in (-FAR, -1, 0, 2, 3, 4, 5, 6, 7, FAR)})

    def test_widen(self):
        deed = Widen(3, 2)
        self.check_came(deed, {-FAR: -FAR, 0: 0, 2: 2, 3: None, 4: None, 5: 3, 6: 4, FAR: FAR - 2})
        self.check_went(deed, {-FAR: -FAR, 0: 0, 2: 2, 3: 5, 4: 6, FAR: FAR + 2})
        deed = Widen(-3, 1)
        self.check_came(deed, {-5: -5, -4: -4, -3: None, -2: -3, 0: -1, 1: 0})
        self.check_went(deed, {-5: -5, -4: -4, -3: -2, -1: 0, 0: 1})

    def test_narrow(self):
        deed = Narrow(3, 2)
        self.check_came(deed, {-FAR: -FAR, 0: 0, 2: 2, 3: 5, 4: 6, FAR: FAR + 2})
        self.check_went(deed, {-FAR: -FAR, 0: 0, 2: 2, 3: None, 4: None, 5: 3, 6: 4, FAR: FAR - 2})
        deed = Narrow(-3, 1)
        self.check_came(deed, {-5: -5, -4: -4, -3: -2, -1: 0, 0: 1})
        self.check_went(deed, {-5: -5, -4: -4, -3: None, -2: -3, 0: -1, 1: 0})

    def test_many_of_nought(self):
        for deed in (Widen(3, 0), Narrow(3, 0)):
            for place in (-FAR, 0, 2, 3, 4, FAR):
                self.check_same(deed.came(place), place)
                self.check_same(deed.went(place), place)

    def test_move(self):
        self.check_came(Move(3), {-FAR: -FAR - 3, -1: -4, 0: -3, 3: 0, FAR: FAR - 3})
        self.check_went(Move(3), {-FAR: 3 - FAR, -4: -1, -3: 0, 0: 3, FAR: FAR + 3})
        self.check_came(Move(-3), {-3: 0, 0: 3, 5: 8})
        self.check_went(Move(-3), {-3: -6, 0: -3, 3: 0, 5: 2})
        self.check_went(Move(0), {-3: -3, 0: 0, 5: 5})

    def test_mirror(self):
        asked = {-FAR: FAR, -2: 2, -1: 1, 0: 0, 1: -1, 2: -2, FAR: -FAR}
        self.check_came(Mirror(), asked)
        self.check_went(Mirror(), asked)

    def test_stretch_to_more_places(self):
        deed = Stretch(3, 1)
        self.check_came(deed, {-7: -3, -6: -2, -4: -2, -3: -1, -1: -1, 0: 0, 2: 0, 3: 1, 5: 1, 6: 2})
        self.check_went(deed, {-2: -6, -1: -3, 0: 0, 1: 3, 2: 6})

    def test_stretch_to_fewer_places(self):
        deed = Stretch(1, 3)
        self.check_came(deed, {-2: -6, -1: -3, 0: 0, 1: 3, 2: 6})
        self.check_went(deed, {-4: None, -3: -1, -2: None, -1: None, 0: 0, 1: None, 2: None, 3: 1, 4: None})

    def test_stretch_by_a_broken_share(self):
        self.check_came(Stretch(3, 2), {-3: -2, -2: -2, -1: -1, 0: 0, 1: 0, 2: 1, 3: 2, 4: 2, 5: 3})
        self.check_went(Stretch(3, 2), {-2: -3, -1: -1, 0: 0, 1: 2, 2: 3, 3: 5})
        self.check_came(Stretch(2, 3), {-3: -5, -2: -3, -1: -2, 0: 0, 1: 1, 2: 3, 3: 4})
        self.check_went(Stretch(2, 3), {-5: -3, -4: None, -3: -2, -2: -1, -1: None, 0: 0, 1: 1, 2: None, 3: 2, 4: 3})

    def test_stretch_with_the_least_and_greatest_numbers(self):
        deed = Stretch(1000, 1)
        self.check_came(deed, {-1001: -2, -1000: -1, -999: -1, -1: -1, 0: 0, 999: 0, 1000: 1})
        self.check_went(deed, {-1: -1000, 0: 0, 1: 1000, FAR: 1000 * FAR})
        deed = Stretch(1, 1000)
        self.check_came(deed, {-1: -1000, 0: 0, 1: 1000})
        self.check_went(deed, {-1001: None, -1000: -1, -999: None, -1: None, 0: 0, 1: None, 999: None, 1000: 1})
        deed = Stretch(1000, 1000)
        self.check_came(deed, {-1: -1, 0: 0, 1: 1, FAR: FAR})
        self.check_went(deed, {-1: -1, 0: 0, 1: 1, -FAR: -FAR})
        self.check_went(Stretch(1, 1), {-1: -1, 0: 0, 1: 1, -FAR: -FAR})
        self.check_went(Stretch(999, 1000), {-2: -1, -1: None, 0: 0, 998: 998, 999: None, 1000: 999})
        self.check_went(Stretch(1000, 999), {-2: -2, -1: -1, 0: 0, 1: 2, 998: 999, 999: 1000})

    def test_all_kinds_place_by_place(self):
        for told in KINDS:
            deed = made_deed(told)
            for place in range(-25, 26):
                self.check_same(deed.came(place), plain_came(told, place))
                self.check_same(deed.went(place), plain_went(told, place))

    def test_came_and_went_agree(self):
        for told in KINDS + [("stretch", 7, 5), ("stretch", 999, 1000), ("stretch", 1000, 999), ("stretch", 1000, 7)]:
            deed = made_deed(told)
            for place in [*range(-60, 61), FAR, FAR + 1, -FAR, -FAR - 1]:
                went, came = deed.went(place), deed.came(place)
                if went is not None:
                    over = told[0] == "put" and came is None
                    self.assertEqual(deed.came(went), None if over else place)
                if came is not None:
                    self.assertLessEqual(deed.went(came), place)
                    if told[0] != "stretch":
                        self.assertEqual(deed.went(came), place)


class TestDone(SpanTest):

    def test_no_pieces(self):
        for told in KINDS:
            if told[0] != "put":
                self.check_same(made_deed(told).done([]), [])
        self.check_same(Put((0, 3), 1).done([]), [(0, 3, 1)])
        self.check_same(Put((0, 3), None).done([]), [])

    def test_one_piece_without_ends_stays(self):
        for deed in (Move(5), Mirror(), Stretch(3, 2), Stretch(1, 1000), Narrow(0, 9), Widen(0, 0)):
            self.check_same(deed.done([(None, None, 4)]), [(None, None, 4)])
        self.check_same(Widen(0, 3).done([(None, None, 4)]), [(None, 0, 4), (3, None, 4)])

    def test_put(self):
        self.check_same(Put((3, 6), 2).done([(0, 9, 1)]), [(0, 3, 1), (3, 6, 2), (6, 9, 1)])
        self.check_same(Put((3, 6), None).done([(0, 9, 1)]), [(0, 3, 1), (6, 9, 1)])
        self.check_same(Put((3, 6), 1).done([(0, 3, 1), (6, 9, 1)]), [(0, 9, 1)])

    def test_widen(self):
        pieces = [(0, 4, 1), (4, 6, 2)]
        self.check_same(Widen(2, 3).done(pieces), [(0, 2, 1), (5, 7, 1), (7, 9, 2)])
        self.check_same(Widen(4, 3).done(pieces), [(0, 4, 1), (7, 9, 2)])
        self.check_same(Widen(0, 3).done(pieces), [(3, 7, 1), (7, 9, 2)])
        self.check_same(Widen(6, 3).done(pieces), pieces)
        self.check_same(Widen(2, 0).done(pieces), pieces)
        self.check_same(Widen(0, 1).done([(None, 1, 1)]), [(None, 0, 1), (1, 2, 1)])

    def test_narrow(self):
        pieces = [(0, 4, 1), (4, 6, 2), (8, 9, 1)]
        self.check_same(Narrow(1, 2).done(pieces), [(0, 2, 1), (2, 4, 2), (6, 7, 1)])
        self.check_same(Narrow(4, 2).done(pieces), [(0, 4, 1), (6, 7, 1)])
        self.check_same(Narrow(4, 4).done(pieces), [(0, 5, 1)])
        self.check_same(Narrow(3, 5).done(pieces), [(0, 4, 1)])
        self.check_same(Narrow(-5, 30).done(pieces), [])
        self.check_same(Narrow(2, 0).done(pieces), pieces)
        self.check_same(Narrow(-3, 2).done([(None, -2, 1), (-1, None, 1)]), [(None, None, 1)])
        self.check_same(Narrow(-3, 2).done([(None, -2, 1), (-1, None, 2)]), [(None, -3, 1), (-3, None, 2)])

    def test_move(self):
        self.check_same(Move(5).done([(None, 0, 1), (0, 2, 2), (4, None, 3)]), [(None, 5, 1), (5, 7, 2), (9, None, 3)])
        self.check_same(Move(-5).done([(0, 2, 2)]), [(-5, -3, 2)])
        self.check_same(Move(0).done([(0, 2, 2)]), [(0, 2, 2)])

    def test_stretch(self):
        self.check_same(Stretch(3, 1).done([(-2, -1, 1), (0, 2, 2)]), [(-6, -3, 1), (0, 6, 2)])
        self.check_same(Stretch(1, 3).done([(-6, -3, 1), (0, 6, 2)]), [(-2, -1, 1), (0, 2, 2)])
        self.check_same(Stretch(3, 2).done([(0, 1, 1), (1, 2, 2), (2, 3, 3)]), [(0, 2, 1), (2, 3, 2), (3, 5, 3)])
        self.check_same(Stretch(1000, 1).done([(-1, 1, 1)]), [(-1000, 1000, 1)])
        self.check_same(Stretch(1, 1000).done([(-1000, 1, 1)]), [(-1, 1, 1)])
        self.check_same(Stretch(2, 1).done([(None, -1, 1), (1, None, 2)]), [(None, -2, 1), (2, None, 2)])

    def test_pieces_that_vanish(self):
        self.check_same(Stretch(1, 3).done([(1, 3, 1)]), [])
        self.check_same(Stretch(1, 3).done([(-2, 0, 1)]), [])
        self.check_same(Stretch(1, 3).done([(0, 1, 1), (1, 3, 2), (3, 4, 3)]), [(0, 1, 1), (1, 2, 3)])
        self.check_same(Stretch(1, 1000).done([(1, 1000, 1)]), [])
        self.check_same(Stretch(1, 1000).done([(-999, 0, 1)]), [])
        self.check_same(Narrow(0, 5).done([(0, 5, 1)]), [])

    def test_neighbours_that_come_to_touch(self):
        self.check_same(Stretch(1, 3).done([(0, 1, 1), (1, 3, 2), (3, 4, 1)]), [(0, 2, 1)])
        self.check_same(Stretch(1, 2).done([(0, 1, 1), (2, 3, 1)]), [(0, 2, 1)])
        self.check_same(Stretch(1, 2).done([(None, -1, 1), (0, None, 1)]), [(None, None, 1)])
        self.check_same(Narrow(3, 2).done([(0, 3, 1), (5, 9, 1)]), [(0, 7, 1)])
        self.check_same(Narrow(3, 2).done([(0, 3, 1), (5, 9, 2)]), [(0, 3, 1), (3, 7, 2)])

    def test_mirror(self):
        self.check_same(Mirror().done([(0, 1, 1)]), [(0, 1, 1)])
        self.check_same(Mirror().done([(1, 3, 1), (3, 4, 2)]), [(-3, -2, 2), (-2, 0, 1)])
        self.check_same(Mirror().done([(None, 3, 1), (5, None, 2)]), [(None, -4, 2), (-2, None, 1)])

    def test_all_kinds_place_by_place(self):
        for told in KINDS:
            deed = made_deed(told)
            for pieces in MAPS:
                def tell(place):
                    came = plain_came(told, place)
                    return deed.fill if came is None else told_at(pieces, came)
                self.assertEqual(deed.done(pieces), plain_map(tell, -16, 16), (told, pieces))

    def test_three_hundred_pieces(self):
        for pieces in (many_pieces(300, -700), many_pieces(300, -300, 2, 0)):
            for told in (("widen", 2, 3), ("narrow", 1, 6), ("move", -3), ("stretch", 2, 3), ("stretch", 1, 5),
                         ("mirror",), ("put", (-100, 100), 8)):
                deed = made_deed(told)
                stands = {place: value for low, behind, value in pieces for place in range(low, behind)}

                def tell(place):
                    came = plain_came(told, place)
                    return deed.fill if came is None else stands.get(came)
                self.assertEqual(deed.done(pieces), plain_map(tell, -1600, 1600), told)

    def test_what_is_given_stays(self):
        for told in KINDS:
            for pieces in ([], [(0, 3, 1)], [(None, -2, 1), (-2, 0, 2), (1, None, 1)], many_pieces(300)):
                self.check_kept(made_deed(told).done, list(pieces))

    def test_a_deed_can_be_done_again_to_another_map(self):
        for told in KINDS:
            deed = made_deed(told)
            first = deed.done([(0, 3, 1)])
            deed.done([(-9, 5, 2), (5, 6, 3)])
            self.assertEqual(deed.done([(0, 3, 1)]), first)

    def test_five_hundred_figures(self):
        pieces = [(-FAR, FAR, LARGE)]
        self.check_same(Widen(0, FAR).done(pieces), [(-FAR, 0, LARGE), (FAR, 2 * FAR, LARGE)])
        self.check_same(Narrow(1 - FAR, 2 * FAR - 2).done(pieces), [(-FAR, 2 - FAR, LARGE)])
        self.check_same(Move(LARGE - FAR).done(pieces), [(LARGE - 2 * FAR, LARGE, LARGE)])
        self.check_same(Mirror().done(pieces), [(1 - FAR, 1 + FAR, LARGE)])
        self.check_same(Put((-LARGE, LARGE), -LARGE).done(pieces), [(-LARGE, LARGE, -LARGE)])
        self.check_same(Stretch(1, 1000).done(pieces), [(-FAR // 1000, FAR // 1000, LARGE)])
        self.check_same(Stretch(2, 1).done(pieces), [(-2 * FAR, 2 * FAR, LARGE)])


class TestDeedsThatLeadBack(SpanTest):

    def check_back(self, pieces, *deeds_done):
        told = pieces
        for deed in deeds_done:
            told = deed.done(told)
        self.assertEqual(told, pieces)

    def test_narrow_behind_widen(self):
        for pieces in MAPS:
            for at in (-4, -1, 0, 1, 5):
                for many in (0, 1, 3, FAR):
                    self.check_back(pieces, Widen(at, many), Narrow(at, many))

    def test_move_and_mirror(self):
        for pieces in MAPS:
            for far in (-7, 0, 1, FAR):
                self.check_back(pieces, Move(far), Move(-far))
            self.check_back(pieces, Mirror(), Mirror())

    def test_stretch_to_fewer_behind_stretch_to_more(self):
        for pieces in MAPS:
            for top in (1, 2, 7, 1000):
                self.check_back(pieces, Stretch(top, 1), Stretch(1, top))

    def test_two_stretches_are_one(self):
        for pieces in MAPS:
            for one, other in ((1, 5), (2, 3), (3, 2), (10, 100), (25, 40)):
                self.assertEqual(Stretch(other, 1).done(Stretch(one, 1).done(pieces)),
                                 Stretch(one * other, 1).done(pieces))


if __name__ == "__main__":
    unittest.main()
