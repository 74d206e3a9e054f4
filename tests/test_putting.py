import unittest

from helper import LARGE, SpanTest, lies_in, many_pieces, plain_map, small_maps, spans_within, told_at
from spanmap import putting
from spanmap.errors import NoEnd
from spanmap.putting import counted, cut, put, values_of

SPANS = spans_within(-1, 4)
THREE = [(0, 4, 1), (4, 8, 2), (12, 16, 1)]
ENDLESS = [(None, 0, 1), (0, 4, 2), (8, None, 1)]


class TestPut(SpanTest):

    def test_the_names_belong_to_the_putting_module(self):
        self.check_belongs(putting, ["put", "cut", "counted", "values_of"])

    def test_into_nothing(self):
        self.check_same(put([], (3, 9), 1), [(3, 9, 1)])
        self.check_same(put([], (3, 4), 0), [(3, 4, 0)])
        self.check_same(put([], (None, None), 1), [(None, None, 1)])
        self.check_same(put([], (3, 9), None), [])

    def test_inside_a_piece(self):
        self.check_same(put(THREE, (1, 3), 5), [(0, 1, 1), (1, 3, 5), (3, 4, 1), (4, 8, 2), (12, 16, 1)])
        self.check_same(put(THREE, (1, 3), 1), THREE)
        self.check_same(put(THREE, (1, 3), None), [(0, 1, 1), (3, 4, 1), (4, 8, 2), (12, 16, 1)])

    def test_at_the_ends_of_a_piece_and_one_beside(self):
        self.check_same(put(THREE, (4, 8), 5), [(0, 4, 1), (4, 8, 5), (12, 16, 1)])
        self.check_same(put(THREE, (5, 8), 5), [(0, 4, 1), (4, 5, 2), (5, 8, 5), (12, 16, 1)])
        self.check_same(put(THREE, (4, 7), 5), [(0, 4, 1), (4, 7, 5), (7, 8, 2), (12, 16, 1)])
        self.check_same(put(THREE, (3, 8), 5), [(0, 3, 1), (3, 8, 5), (12, 16, 1)])
        self.check_same(put(THREE, (4, 9), 5), [(0, 4, 1), (4, 9, 5), (12, 16, 1)])

    def test_alike_to_its_neighbours(self):
        self.check_same(put(THREE, (4, 8), 1), [(0, 8, 1), (12, 16, 1)])
        self.check_same(put(THREE, (4, 12), 1), [(0, 16, 1)])
        self.check_same(put(THREE, (8, 12), 2), [(0, 4, 1), (4, 12, 2), (12, 16, 1)])
        self.check_same(put(THREE, (8, 12), 1), [(0, 4, 1), (4, 8, 2), (8, 16, 1)])
        self.check_same(put(THREE, (9, 11), 1), [(0, 4, 1), (4, 8, 2), (9, 11, 1), (12, 16, 1)])

    def test_over_several_pieces(self):
        self.check_same(put(THREE, (2, 14), 5), [(0, 2, 1), (2, 14, 5), (14, 16, 1)])
        self.check_same(put(THREE, (2, 14), None), [(0, 2, 1), (14, 16, 1)])
        self.check_same(put(THREE, (2, 14), 1), [(0, 16, 1)])
        self.check_same(put(THREE, (-1, 17), 5), [(-1, 17, 5)])

    def test_without_ends(self):
        self.check_same(put(THREE, (None, 6), 5), [(None, 6, 5), (6, 8, 2), (12, 16, 1)])
        self.check_same(put(THREE, (6, None), 5), [(0, 4, 1), (4, 6, 2), (6, None, 5)])
        self.check_same(put(THREE, (None, None), 5), [(None, None, 5)])
        self.check_same(put(THREE, (None, None), None), [])
        self.check_same(put(ENDLESS, (-2, 10), None), [(None, -2, 1), (10, None, 1)])
        self.check_same(put(ENDLESS, (0, 8), 1), [(None, None, 1)])
        self.check_same(put(ENDLESS, (None, 2), None), [(2, 4, 2), (8, None, 1)])

    def test_all_small_maps(self):
        for pieces in small_maps(3):
            for span in SPANS:
                for value in (None, 1, 2, 0):
                    def tell(place):
                        return value if lies_in(span, place) else told_at(pieces, place)
                    self.assertEqual(put(pieces, span, value), plain_map(tell, -2, 4))

    def test_three_hundred_pieces(self):
        pieces = many_pieces(300)
        self.check_same(put(pieces, (1, 2), 99), [(0, 1, -3), (1, 2, 99), (2, 3, -3)] + pieces[1:])
        self.check_same(put(pieces, (5, 1495), None), [pieces[0], pieces[299]])

    def test_what_is_given_stays(self):
        for span in ((1, 3), (4, 8), (None, 6), (20, 30)):
            for value in (None, 1, 5):
                self.check_kept(put, list(THREE), span, value)
                self.check_kept(put, list(ENDLESS), span, value)
                self.check_kept(put, [], span, value)

    def test_five_hundred_figures(self):
        self.check_same(put([(-LARGE, LARGE, LARGE)], (0, 1), -LARGE),
                        [(-LARGE, 0, LARGE), (0, 1, -LARGE), (1, LARGE, LARGE)])
        self.check_same(put([(0, 1, 5)], (-LARGE, LARGE), LARGE), [(-LARGE, LARGE, LARGE)])
        self.check_same(put([(-LARGE, 0, LARGE)], (0, LARGE), LARGE), [(-LARGE, LARGE, LARGE)])


class TestCut(SpanTest):

    def test_inside_and_at_the_ends_of_a_piece(self):
        self.check_same(cut(THREE, (1, 3)), [(1, 3, 1)])
        self.check_same(cut(THREE, (4, 8)), [(4, 8, 2)])
        self.check_same(cut(THREE, (3, 8)), [(3, 4, 1), (4, 8, 2)])
        self.check_same(cut(THREE, (5, 8)), [(5, 8, 2)])
        self.check_same(cut(THREE, (4, 7)), [(4, 7, 2)])
        self.check_same(cut(THREE, (4, 9)), [(4, 8, 2)])

    def test_over_several_pieces(self):
        self.check_same(cut(THREE, (2, 14)), [(2, 4, 1), (4, 8, 2), (12, 14, 1)])
        self.check_same(cut(THREE, (-5, 25)), THREE)

    def test_to_where_nothing_stands(self):
        self.check_same(cut(THREE, (8, 12)), [])
        self.check_same(cut(THREE, (-5, 0)), [])
        self.check_same(cut(THREE, (16, None)), [])
        self.check_same(cut([], (None, None)), [])

    def test_without_ends(self):
        self.check_same(cut(THREE, (None, None)), THREE)
        self.check_same(cut(THREE, (None, 5)), [(0, 4, 1), (4, 5, 2)])
        self.check_same(cut(THREE, (13, None)), [(13, 16, 1)])
        self.check_same(cut(ENDLESS, (None, None)), ENDLESS)
        self.check_same(cut(ENDLESS, (-3, 9)), [(-3, 0, 1), (0, 4, 2), (8, 9, 1)])
        self.check_same(cut(ENDLESS, (None, -3)), [(None, -3, 1)])
        self.check_same(cut(ENDLESS, (9, None)), [(9, None, 1)])

    def test_all_small_maps(self):
        for pieces in small_maps(3):
            for span in SPANS:
                def tell(place):
                    return told_at(pieces, place) if lies_in(span, place) else None
                self.assertEqual(cut(pieces, span), plain_map(tell, -2, 4))

    def test_three_hundred_pieces(self):
        pieces = many_pieces(300)
        self.check_same(cut(pieces, (-9, 9999)), pieces)
        self.check_same(cut(pieces, (4, 1495)), pieces[1:299])

    def test_what_is_given_stays(self):
        for span in ((1, 3), (None, None), (-5, 25), (8, 12)):
            self.check_kept(cut, list(THREE), span)
            self.check_kept(cut, list(ENDLESS), span)
            self.check_kept(cut, [], span)

    def test_five_hundred_figures(self):
        self.check_same(cut([(None, None, LARGE)], (-LARGE, LARGE)), [(-LARGE, LARGE, LARGE)])
        self.check_same(cut([(-LARGE, LARGE, 1)], (LARGE - 1, None)), [(LARGE - 1, LARGE, 1)])


class TestCounted(SpanTest):

    def test_a_value_another_one_and_nothing(self):
        self.check_same(counted(THREE, (0, 16), 1), 8)
        self.check_same(counted(THREE, (0, 16), 2), 4)
        self.check_same(counted(THREE, (0, 16), None), 4)
        self.check_same(counted(THREE, (0, 16), 3), 0)
        self.check_same(counted(THREE, (0, 16), 0), 0)

    def test_spans_that_part_pieces(self):
        self.check_same(counted(THREE, (3, 13), 1), 2)
        self.check_same(counted(THREE, (3, 13), 2), 4)
        self.check_same(counted(THREE, (3, 13), None), 4)
        self.check_same(counted(THREE, (9, 10), None), 1)
        self.check_same(counted(THREE, (-5, 25), None), 18)

    def test_nought_is_not_nothing(self):
        self.check_same(counted([(0, 4, 0)], (0, 10), 0), 4)
        self.check_same(counted([(0, 4, 0)], (0, 10), None), 6)

    def test_maps_without_ends_and_the_empty_one(self):
        self.check_same(counted(ENDLESS, (-10, 10), 1), 12)
        self.check_same(counted(ENDLESS, (-10, 10), 2), 4)
        self.check_same(counted(ENDLESS, (-10, 10), None), 4)
        self.check_same(counted([], (-10, 10), None), 20)
        self.check_same(counted([], (-10, 10), 1), 0)

    def test_a_span_without_an_end_is_refused(self):
        for span in ((None, 5), (5, None), (None, None), (None, 0), (0, None), (None, -50), (50, None)):
            for pieces in ([], THREE, ENDLESS):
                for value in (None, 1, 3):
                    self.check_refused(NoEnd, counted, pieces, span, value)

    def test_all_small_maps(self):
        spans = [(low, behind) for low, behind in SPANS if low is not None and behind is not None]
        for pieces in small_maps(3):
            for low, behind in spans:
                values = [told_at(pieces, place) for place in range(low, behind)]
                for value in (None, 1, 2, 3):
                    self.check_same(counted(pieces, (low, behind), value), values.count(value))

    def test_three_hundred_pieces(self):
        pieces = many_pieces(300)
        self.check_same(counted(pieces, (0, 1500), None), 600)
        self.check_same(counted(pieces, (0, 1500), -3), 129)
        self.check_same(counted(pieces, (0, 1500), 3), 126)

    def test_what_is_given_stays(self):
        pieces = list(THREE)
        for turn in range(2):
            self.check_same(counted(pieces, (3, 13), 1), 2)
        self.assertEqual(pieces, THREE)
        self.check_refused(NoEnd, counted, pieces, (None, 5), 1)
        self.assertEqual(pieces, THREE)

    def test_five_hundred_figures(self):
        half = LARGE // 3
        self.check_same(counted([(-half, half, LARGE)], (-half, half), LARGE), 2 * half)
        self.check_same(counted([(0, 1, LARGE)], (-half, half), None), 2 * half - 1)
        self.check_same(counted([(None, None, LARGE)], (1, LARGE), LARGE - 1), 0)


class TestValuesOf(SpanTest):

    def test_rising_each_once(self):
        self.check_same(values_of([]), [])
        self.check_same(values_of(THREE), [1, 2])
        pieces = [(0, 1, 5), (1, 2, -3), (2, 3, 0), (3, 4, -3), (4, 5, 12), (5, 6, 5)]
        self.check_same(values_of(pieces), [-3, 0, 5, 12])
        self.check_same(values_of([(None, None, 0)]), [0])

    def test_all_small_maps(self):
        for pieces in small_maps(3, (None, 4, -4)):
            told = [told_at(pieces, place) for place in range(-1, 4)]
            self.check_same(values_of(pieces), [value for value in (-4, 4) if value in told])

    def test_three_hundred_pieces(self):
        self.check_same(values_of(many_pieces(300)), [-3, -2, -1, 0, 1, 2, 3])
        self.check_same(values_of([(k, k + 1, 1000 - k) for k in range(300)]), list(range(701, 1001)))

    def test_what_is_given_stays(self):
        self.check_kept(values_of, list(THREE))
        self.check_kept(values_of, [])

    def test_five_hundred_figures(self):
        self.check_same(values_of([(0, 1, LARGE), (1, 2, -LARGE), (2, 3, LARGE - 1)]), [-LARGE, LARGE - 1, LARGE])


if __name__ == "__main__":
    unittest.main()
