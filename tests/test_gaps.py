import unittest

from helper import LARGE, SpanTest, lies_in, many_pieces, small_maps, spans_within, told_at
from spanmap import gaps as gaps_module
from spanmap.gaps import gaps, longest

SPANS = spans_within(-1, 4)
THREE = [(0, 4, 1), (4, 8, 2), (12, 16, 0)]
ENDLESS = [(None, 0, 1), (3, 5, 2), (9, None, 1)]


def plain_gaps(pieces, span):
    """Place by place; what stands at -3 and at 6 goes on to that side."""
    told = []
    for place in range(-3, 7):
        if not lies_in(span, place) or told_at(pieces, place) is not None:
            continue
        if told and told[-1][1] == place:
            told[-1][1] = place + 1
        else:
            told.append([place, place + 1])
    return [(None if low == -3 else low, None if behind == 7 else behind) for low, behind in told]


class TestGaps(SpanTest):

    def test_the_names_belong_to_the_gaps_module(self):
        self.check_belongs(gaps_module, ["gaps", "longest"])

    def test_spans_that_begin_or_end_in_a_piece(self):
        self.check_same(gaps(THREE, (2, 14)), [(8, 12)])
        self.check_same(gaps(THREE, (2, 10)), [(8, 10)])
        self.check_same(gaps(THREE, (1, 3)), [])
        self.check_same(gaps(THREE, (2, 6)), [])

    def test_spans_that_begin_or_end_at_the_ends_of_a_piece(self):
        self.check_same(gaps(THREE, (8, 12)), [(8, 12)])
        self.check_same(gaps(THREE, (7, 13)), [(8, 12)])
        self.check_same(gaps(THREE, (0, 8)), [])
        self.check_same(gaps(THREE, (0, 9)), [(8, 9)])
        self.check_same(gaps(THREE, (-1, 8)), [(-1, 0)])
        self.check_same(gaps(THREE, (12, 16)), [])
        self.check_same(gaps(THREE, (16, 17)), [(16, 17)])

    def test_spans_that_begin_or_end_in_a_gap(self):
        self.check_same(gaps(THREE, (9, 11)), [(9, 11)])
        self.check_same(gaps(THREE, (9, 20)), [(9, 12), (16, 20)])
        self.check_same(gaps(THREE, (-5, 20)), [(-5, 0), (8, 12), (16, 20)])
        self.check_same(gaps(THREE, (-5, -2)), [(-5, -2)])
        self.check_same(gaps(THREE, (30, 40)), [(30, 40)])

    def test_without_ends(self):
        self.check_same(gaps([], (None, None)), [(None, None)])
        self.check_same(gaps([], (3, 9)), [(3, 9)])
        self.check_same(gaps([(None, None, 0)], (None, None)), [])
        self.check_same(gaps(THREE, (None, None)), [(None, 0), (8, 12), (16, None)])
        self.check_same(gaps(THREE, (None, 10)), [(None, 0), (8, 10)])
        self.check_same(gaps(THREE, (10, None)), [(10, 12), (16, None)])
        self.check_same(gaps(ENDLESS, (None, None)), [(0, 3), (5, 9)])
        self.check_same(gaps(ENDLESS, (None, 0)), [])
        self.check_same(gaps(ENDLESS, (9, None)), [])

    def test_all_small_maps(self):
        for pieces in small_maps(3, (None, 0, 1)):
            for span in SPANS:
                self.check_same(gaps(pieces, span), plain_gaps(pieces, span))

    def test_three_hundred_pieces(self):
        pieces = many_pieces(300)
        self.check_same(gaps(pieces, (0, 1500)), [(5 * k + 3, 5 * k + 5) for k in range(300)])

    def test_what_is_given_stays(self):
        for span in ((2, 14), (None, None), (0, 8)):
            self.check_kept(gaps, list(THREE), span)
            self.check_kept(gaps, list(ENDLESS), span)
            self.check_kept(gaps, [], span)

    def test_five_hundred_figures(self):
        self.check_same(gaps([(0, 1, LARGE)], (-LARGE, LARGE)), [(-LARGE, 0), (1, LARGE)])
        self.check_same(gaps([(-LARGE, LARGE - 1, 1)], (-LARGE, LARGE)), [(LARGE - 1, LARGE)])


class TestLongest(SpanTest):

    def test_the_longest(self):
        pieces = [(0, 1, 1), (3, 4, 1), (9, 10, 1), (12, 13, 1)]
        self.check_same(longest(pieces, (0, 13)), (4, 9))
        self.check_same(longest(pieces, (0, 4)), (1, 3))
        self.check_same(longest(pieces, (-20, 13)), (-20, 0))
        self.check_same(longest(pieces, (0, 40)), (13, 40))
        self.check_same(longest(pieces, (5, 6)), (5, 6))

    def test_of_several_as_long_the_first(self):
        pieces = [(0, 1, 1), (3, 4, 1), (6, 7, 1), (8, 9, 1), (11, 12, 1)]
        self.check_same(longest(pieces, (0, 12)), (1, 3))
        self.check_same(longest(pieces, (2, 12)), (4, 6))
        self.check_same(longest(pieces, (5, 12)), (9, 11))

    def test_without_an_end_is_longer_than_each_with_both(self):
        self.check_same(longest([(0, 1, 1), (500, 501, 1)], (None, 600)), (None, 0))
        self.check_same(longest([(0, 1, 1), (500, 501, 1)], (-600, None)), (501, None))
        self.check_same(longest([(0, 1, 1), (LARGE, None, 1)], (None, None)), (None, 0))
        self.check_same(longest([(None, -LARGE, 1), (0, 1, 1)], (None, None)), (1, None))

    def test_without_ends_they_are_as_long_as_one_another(self):
        self.check_same(longest([(0, 1, 1)], (None, None)), (None, 0))
        self.check_same(longest([(0, 1, 1), (50, 60, 2)], (None, None)), (None, 0))
        self.check_same(longest([], (None, None)), (None, None))

    def test_no_gap(self):
        self.assertIsNone(longest(THREE, (0, 8)))
        self.assertIsNone(longest([(None, None, 0)], (None, None)))
        self.assertIsNone(longest(ENDLESS, (None, 0)))
        self.assertIsNone(longest([(3, 4, 0)], (3, 4)))

    def test_all_small_maps(self):
        for pieces in small_maps(3, (None, 0, 1)):
            for span in SPANS:
                told = plain_gaps(pieces, span)
                lengths = [LARGE if None in gap else gap[1] - gap[0] for gap in told]
                asked = told[lengths.index(max(lengths))] if told else None
                self.check_same(longest(pieces, span), asked)

    def test_three_hundred_pieces(self):
        pieces = many_pieces(300)
        self.check_same(longest(pieces, (0, 1500)), (3, 5))
        self.check_same(longest(pieces[:200] + pieces[201:], (0, 1500)), (998, 1005))

    def test_what_is_given_stays(self):
        pieces = list(THREE)
        for turn in range(2):
            self.check_same(longest(pieces, (0, 20)), (8, 12))
        self.assertEqual(pieces, THREE)

    def test_five_hundred_figures(self):
        self.check_same(longest([(0, 1, LARGE)], (-LARGE, LARGE)), (-LARGE, 0))
        self.check_same(longest([(-1, 0, LARGE)], (-LARGE, LARGE)), (0, LARGE))


if __name__ == "__main__":
    unittest.main()
