import unittest

from helper import LARGE, SpanTest, lies_in, spans_within
from spanmap import spans
from spanmap.ends import Endless, Open, Shut
from spanmap.errors import Empty
from spanmap.spans import has, hull, length, less, meet, near, span

SPANS = spans_within(-2, 3)
# Beyond the ends of SPANS nothing changes, so these places stand for all.
PLACES = range(-5, 7)


def places_of(one):
    return [place for place in PLACES if lies_in(one, place)]


class TestSpan(SpanTest):

    def test_the_names_belong_to_the_spans_module(self):
        self.check_belongs(spans, ["span", "has", "meet", "less", "near", "hull", "length"])

    def test_shut_and_shut(self):
        self.check_same(span(Shut(3), Shut(3)), (3, 4))
        self.check_same(span(Shut(3), Shut(4)), (3, 5))
        self.check_refused(Empty, span, Shut(3), Shut(2))

    def test_shut_and_open(self):
        self.check_same(span(Shut(3), Open(4)), (3, 4))
        self.check_same(span(Shut(3), Open(5)), (3, 5))
        self.check_refused(Empty, span, Shut(3), Open(3))

    def test_open_and_shut(self):
        self.check_same(span(Open(3), Shut(4)), (4, 5))
        self.check_same(span(Open(3), Shut(5)), (4, 6))
        self.check_refused(Empty, span, Open(3), Shut(3))

    def test_open_and_open(self):
        self.check_same(span(Open(3), Open(5)), (4, 5))
        self.check_same(span(Open(3), Open(6)), (4, 6))
        self.check_refused(Empty, span, Open(3), Open(4))
        self.check_refused(Empty, span, Open(3), Open(3))

    def test_endless(self):
        self.check_same(span(Endless(), Shut(3)), (None, 4))
        self.check_same(span(Endless(), Open(3)), (None, 3))
        self.check_same(span(Shut(3), Endless()), (3, None))
        self.check_same(span(Open(3), Endless()), (4, None))
        self.check_same(span(Endless(), Endless()), (None, None))

    def test_round_nought(self):
        self.check_same(span(Shut(0), Shut(0)), (0, 1))
        self.check_same(span(Open(-1), Open(1)), (0, 1))
        self.check_same(span(Endless(), Open(0)), (None, 0))
        self.check_same(span(Shut(0), Endless()), (0, None))
        self.check_same(span(Shut(-1), Open(0)), (-1, 0))
        self.check_refused(Empty, span, Shut(0), Open(0))

    def test_the_places_between_all_ends(self):
        for low in PLACES:
            for high in PLACES:
                for low_end, first in ((Shut(low), low), (Open(low), low + 1)):
                    for high_end, last in ((Shut(high), high), (Open(high), high - 1)):
                        if first <= last:
                            self.check_same(span(low_end, high_end), (first, last + 1))
                        else:
                            self.check_refused(Empty, span, low_end, high_end)

    def test_one_end_for_both_sides(self):
        shut, endless = Shut(4), Endless()
        self.check_same(span(shut, shut), (4, 5))
        self.check_same(span(endless, endless), (None, None))

    def test_five_hundred_figures(self):
        self.check_same(span(Shut(-LARGE), Open(LARGE)), (-LARGE, LARGE))
        self.check_same(span(Open(LARGE - 2), Shut(LARGE - 1)), (LARGE - 1, LARGE))
        self.check_refused(Empty, span, Open(LARGE - 1), Open(LARGE))
        self.check_refused(Empty, span, Shut(LARGE), Shut(-LARGE))


class TestHas(SpanTest):

    def test_at_beside_and_far_from_each_end(self):
        asked = [-LARGE, 2, 3, 4, 8, 9, 10, LARGE]
        self.check_same([has((3, 9), place) for place in asked], [False, False, True, True, True, False, False, False])
        self.check_same([has((None, 9), place) for place in asked], [True, True, True, True, True, False, False, False])
        self.check_same([has((3, None), place) for place in asked], [False, False, True, True, True, True, True, True])
        self.check_same([has((None, None), place) for place in asked], [True] * 8)

    def test_one_place(self):
        self.check_same([has((0, 1), place) for place in (-1, 0, 1)], [False, True, False])

    def test_ends_at_nought(self):
        self.check_same([has((None, 0), place) for place in (-1, 0, 1)], [True, False, False])
        self.check_same([has((0, None), place) for place in (-1, 0, 1)], [False, True, True])

    def test_all_small_spans(self):
        for one in SPANS:
            for place in PLACES:
                self.check_same(has(one, place), lies_in(one, place))

    def test_five_hundred_figures(self):
        self.check_same([has((LARGE - 1, LARGE), LARGE - k) for k in (0, 1, 2)], [False, True, False])
        self.check_same(has((-LARGE, LARGE), 0), True)


class TestMeet(SpanTest):

    def check_meet(self, one, other, asked):
        self.check_same(meet(one, other), asked)
        self.check_same(meet(other, one), asked)

    def test_apart_and_touching(self):
        self.check_meet((0, 3), (5, 9), None)
        self.check_meet((0, 3), (4, 9), None)
        self.check_meet((0, 3), (3, 9), None)
        self.check_meet((None, 3), (3, None), None)

    def test_overlapping(self):
        self.check_meet((0, 4), (3, 9), (3, 4))
        self.check_meet((0, 6), (3, 9), (3, 6))
        self.check_meet((None, 6), (3, None), (3, 6))

    def test_one_in_the_other(self):
        self.check_meet((0, 9), (0, 4), (0, 4))
        self.check_meet((0, 9), (2, 4), (2, 4))
        self.check_meet((0, 9), (4, 9), (4, 9))
        self.check_meet((0, 9), (0, 9), (0, 9))

    def test_without_ends(self):
        self.check_meet((None, None), (None, None), (None, None))
        self.check_meet((None, None), (2, 4), (2, 4))
        self.check_meet((None, None), (None, 4), (None, 4))
        self.check_meet((None, None), (2, None), (2, None))
        self.check_meet((None, 0), (None, 4), (None, 0))
        self.check_meet((0, None), (-2, None), (0, None))

    def test_all_small_spans(self):
        for one in SPANS:
            for other in SPANS:
                common = meet(one, other)
                told = [] if common is None else places_of(common)
                self.assertEqual(told, [place for place in places_of(one) if lies_in(other, place)])
                if common is not None:
                    self.assertIn(common, SPANS)

    def test_five_hundred_figures(self):
        self.check_meet((-LARGE, LARGE), (LARGE - 1, None), (LARGE - 1, LARGE))
        self.check_meet((-LARGE, 0), (0, LARGE), None)


class TestLess(SpanTest):

    def test_apart_and_touching(self):
        self.check_same(less((0, 3), (5, 9)), [(0, 3)])
        self.check_same(less((5, 9), (0, 3)), [(5, 9)])
        self.check_same(less((0, 3), (3, 9)), [(0, 3)])
        self.check_same(less((3, 9), (0, 3)), [(3, 9)])
        self.check_same(less((3, None), (None, 3)), [(3, None)])

    def test_overlapping_at_either_side(self):
        self.check_same(less((0, 5), (3, 9)), [(0, 3)])
        self.check_same(less((3, 9), (0, 5)), [(5, 9)])

    def test_the_second_in_the_first(self):
        self.check_same(less((0, 9), (0, 3)), [(3, 9)])
        self.check_same(less((0, 9), (3, 5)), [(0, 3), (5, 9)])
        self.check_same(less((0, 9), (5, 9)), [(0, 5)])

    def test_the_first_in_the_second(self):
        for one in ((0, 3), (3, 5), (5, 9), (0, 9)):
            self.check_same(less(one, (0, 9)), [])
            self.check_same(less(one, (None, None)), [])

    def test_without_ends(self):
        self.check_same(less((None, None), (3, 5)), [(None, 3), (5, None)])
        self.check_same(less((None, None), (None, 5)), [(5, None)])
        self.check_same(less((None, None), (3, None)), [(None, 3)])
        self.check_same(less((None, None), (None, None)), [])
        self.check_same(less((None, 9), (3, 5)), [(None, 3), (5, 9)])
        self.check_same(less((None, 9), (3, None)), [(None, 3)])
        self.check_same(less((None, 9), (None, 3)), [(3, 9)])
        self.check_same(less((0, None), (0, 1)), [(1, None)])
        self.check_same(less((0, 9), (None, 0)), [(0, 9)])

    def test_all_small_spans(self):
        for one in SPANS:
            for other in SPANS:
                told = less(one, other)
                places = [place for part in told for place in places_of(part)]
                self.assertEqual(places, [place for place in places_of(one) if not lies_in(other, place)])
                for part in told:
                    self.assertIn(part, SPANS)
                if len(told) > 1:
                    # As long as they can be: two spans only where places of the second lie between them.
                    self.assertLess(told[0][1], told[1][0])
                self.assertLess(len(told), 3)

    def test_the_told_list_is_for_the_asker(self):
        told = less((0, 9), (3, 5))
        told.append("mine")
        self.check_same(less((0, 9), (3, 5)), [(0, 3), (5, 9)])

    def test_five_hundred_figures(self):
        self.check_same(less((-LARGE, LARGE), (0, 1)), [(-LARGE, 0), (1, LARGE)])
        self.check_same(less((-LARGE, LARGE), (1 - LARGE, LARGE - 1)), [(-LARGE, 1 - LARGE), (LARGE - 1, LARGE)])


class TestNear(SpanTest):

    def check_near(self, one, other, asked):
        self.check_same(near(one, other), asked)
        self.check_same(near(other, one), asked)

    def test_touching(self):
        self.check_near((0, 3), (3, 9), True)
        self.check_near((None, 3), (3, None), True)
        self.check_near((-1, 0), (0, 1), True)
        self.check_near((None, 0), (0, None), True)

    def test_one_place_between(self):
        self.check_near((0, 3), (4, 9), False)
        self.check_near((None, 3), (4, None), False)
        self.check_near((None, 0), (1, None), False)
        self.check_near((-3, -1), (0, 5), False)

    def test_far_apart_and_with_places_in_common(self):
        self.check_near((0, 3), (30, 90), False)
        self.check_near((0, 5), (3, 9), True)
        self.check_near((0, 9), (3, 5), True)
        self.check_near((0, 9), (0, 9), True)
        self.check_near((None, None), (3, 4), True)

    def test_all_small_spans(self):
        for one in SPANS:
            for other in SPANS:
                ours, theirs = places_of(one), places_of(other)
                self.check_same(near(one, other), ours[-1] + 1 >= theirs[0] and theirs[-1] + 1 >= ours[0])

    def test_five_hundred_figures(self):
        self.check_near((-LARGE, 0), (0, LARGE), True)
        self.check_near((-LARGE, 0), (1, LARGE), False)


class TestHull(SpanTest):

    def check_hull(self, one, other, asked):
        self.check_same(hull(one, other), asked)
        self.check_same(hull(other, one), asked)

    def test_both_ways_about(self):
        self.check_hull((0, 3), (5, 9), (0, 9))
        self.check_hull((0, 3), (3, 9), (0, 9))
        self.check_hull((0, 5), (3, 9), (0, 9))
        self.check_hull((0, 9), (3, 5), (0, 9))
        self.check_hull((0, 9), (0, 9), (0, 9))

    def test_without_ends(self):
        self.check_hull((None, 3), (5, 9), (None, 9))
        self.check_hull((None, 9), (3, 5), (None, 9))
        self.check_hull((0, None), (-5, -3), (-5, None))
        self.check_hull((None, 3), (5, None), (None, None))
        self.check_hull((None, None), (5, 9), (None, None))

    def test_all_small_spans(self):
        for one in SPANS:
            for other in SPANS:
                both = sorted(places_of(one) + places_of(other))
                told = hull(one, other)
                self.assertIn(told, SPANS)
                self.assertEqual(places_of(told), list(range(both[0], both[-1] + 1)))

    def test_five_hundred_figures(self):
        self.check_hull((-LARGE, 1 - LARGE), (LARGE - 1, LARGE), (-LARGE, LARGE))


class TestLength(SpanTest):

    def test_with_both_ends(self):
        self.check_same(length((3, 4)), 1)
        self.check_same(length((3, 9)), 6)
        self.check_same(length((-3, 0)), 3)
        self.check_same(length((0, 3)), 3)
        self.check_same(length((-3, 4)), 7)

    def test_without_an_end(self):
        for one in ((None, 3), (3, None), (None, None), (None, 0), (0, None)):
            self.assertIsNone(length(one))

    def test_five_hundred_figures(self):
        self.check_same(length((1, LARGE)), LARGE - 1)
        self.check_same(length((-(LARGE // 2), LARGE // 2)), LARGE // 2 * 2)


if __name__ == "__main__":
    unittest.main()
