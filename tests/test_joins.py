import unittest

from helper import LARGE, SpanTest, many_pieces, plain_map, small_maps, told_at
from spanmap import joins
from spanmap.errors import Clash
from spanmap.joins import joined, merged, turned

THREE = [(0, 4, 1), (4, 8, 2), (12, 16, 1)]
ENDLESS = [(None, 2, 3), (6, 10, 4), (10, None, 5)]


def first(one, other):
    return other if one is None else one


def added(one, other):
    return (one or 0) + (other or 0)


def both(one, other):
    return None if one is None or other is None else one * 10 + other


def taken(one, other):
    return one if other is None else None


def nothing(one, other):
    return None


def always(one, other):
    return 0


def code(one, other):
    return (9 if one is None else one) * 10 + (9 if other is None else other)


WAYS = [first, added, both, taken, nothing, always, code]


class TestJoined(SpanTest):

    def test_the_names_belong_to_the_joins_module(self):
        self.check_belongs(joins, ["joined", "turned", "merged"])

    def test_ordinary_ways(self):
        other = [(2, 6, 7), (14, 20, 8)]
        self.check_same(joined(THREE, other, first), [(0, 4, 1), (4, 8, 2), (12, 16, 1), (16, 20, 8)])
        self.check_same(joined(other, THREE, first), [(0, 2, 1), (2, 6, 7), (6, 8, 2), (12, 14, 1), (14, 20, 8)])
        self.check_same(joined(THREE, other, both), [(2, 4, 17), (4, 6, 27), (14, 16, 18)])
        self.check_same(joined(other, THREE, both), [(2, 4, 71), (4, 6, 72), (14, 16, 81)])
        self.check_same(joined(THREE, other, taken), [(0, 2, 1), (6, 8, 2), (12, 14, 1)])

    def test_a_value_where_both_tell_nothing(self):
        self.check_same(joined([], [], always), [(None, None, 0)])
        self.check_same(joined([(0, 3, 1)], [(3, 5, 2)], added), [(None, 0, 0), (0, 3, 1), (3, 5, 2), (5, None, 0)])
        self.check_same(joined([(0, 3, 1)], [(5, 6, 2)], code),
                        [(None, 0, 99), (0, 3, 19), (3, 5, 99), (5, 6, 92), (6, None, 99)])

    def test_ways_that_tell_none(self):
        self.check_same(joined(THREE, ENDLESS, nothing), [])
        self.check_same(joined(ENDLESS, ENDLESS, taken), [])

    def test_alike_values_at_neighbours(self):
        self.check_same(joined(THREE, ENDLESS, always), [(None, None, 0)])
        self.check_same(joined([(0, 3, 1), (3, 5, 2)], [(0, 3, 2), (3, 5, 1)], added),
                        [(None, 0, 0), (0, 5, 3), (5, None, 0)])
        self.check_same(joined([(0, 3, 1)], [(3, 5, 1)], first), [(0, 5, 1)])
        self.check_same(joined([(None, 3, 1)], [(3, None, 1)], first), [(None, None, 1)])

    def test_with_itself_and_with_nothing(self):
        for pieces in (THREE, ENDLESS, [], many_pieces(300)):
            for way in WAYS:
                self.assertEqual(joined(pieces, pieces, way), joined(pieces, list(pieces), way))
                self.assertEqual(joined(pieces, pieces, way), turned(pieces, lambda value: way(value, value)))
            self.check_same(joined(pieces, pieces, first), pieces)
            self.check_same(joined(pieces, [], first), pieces)
            self.check_same(joined([], pieces, first), pieces)
            self.check_same(joined(pieces, [], taken), pieces)
            self.check_same(joined([], pieces, taken), [])

    def test_without_ends(self):
        self.check_same(joined(THREE, ENDLESS, first),
                        [(None, 0, 3), (0, 4, 1), (4, 8, 2), (8, 10, 4), (10, 12, 5), (12, 16, 1), (16, None, 5)])
        self.check_same(joined([(None, None, 1)], [(0, 1, 2)], code), [(None, 0, 19), (0, 1, 12), (1, None, 19)])

    def test_all_pairs_of_small_maps(self):
        pieces = small_maps(2)
        for one in pieces:
            for other in pieces:
                for way in (first, both, taken, code):
                    def tell(place):
                        return way(told_at(one, place), told_at(other, place))
                    self.assertEqual(joined(one, other, way), plain_map(tell, -1, 2))

    def test_three_hundred_pieces(self):
        one, other = many_pieces(300), many_pieces(300, 3, 2, 3)
        told = joined(one, other, code)
        self.assertEqual(told, plain_map(lambda place: code(told_at(one, place), told_at(other, place)), -1, 1501))

    def test_what_is_given_stays(self):
        for way in WAYS:
            self.check_kept(joined, list(THREE), list(ENDLESS), way)
            self.check_kept(lambda other: joined(THREE, other, way), list(ENDLESS))
            self.check_kept(lambda pieces: joined(pieces, pieces, way), list(THREE))
            self.check_kept(joined, list(THREE), [], way)
            self.check_kept(joined, [], [], way)

    def test_five_hundred_figures(self):
        self.check_same(joined([(-LARGE, LARGE, LARGE)], [(0, None, -LARGE)], first),
                        [(-LARGE, LARGE, LARGE), (LARGE, None, -LARGE)])
        self.check_same(joined([(-LARGE, LARGE, LARGE)], [(0, 1, 1 - LARGE)], added),
                        [(None, -LARGE, 0), (-LARGE, 0, LARGE), (0, 1, 1), (1, LARGE, LARGE), (LARGE, None, 0)])


class TestTurned(SpanTest):

    def test_values(self):
        self.check_same(turned(THREE, lambda value: value), THREE)
        self.check_same(turned(THREE, lambda value: None if value is None else -value),
                        [(0, 4, -1), (4, 8, -2), (12, 16, -1)])
        self.check_same(turned(THREE, lambda value: None if value == 1 else value), [(4, 8, 2)])
        self.check_same(turned(THREE, lambda value: None), [])

    def test_nothing_is_given_a_value(self):
        self.check_same(turned([], lambda value: 4), [(None, None, 4)])
        self.check_same(turned(THREE, lambda value: 4 if value is None else None),
                        [(None, 0, 4), (8, 12, 4), (16, None, 4)])
        self.check_same(turned(ENDLESS, lambda value: 4 if value is None else None), [(2, 6, 4)])
        self.check_same(turned(THREE, lambda value: 1 if value is None else value),
                        [(None, 4, 1), (4, 8, 2), (8, None, 1)])

    def test_alike_values_at_neighbours(self):
        self.check_same(turned(THREE, lambda value: None if value is None else 7), [(0, 8, 7), (12, 16, 7)])
        self.check_same(turned(ENDLESS, lambda value: 7), [(None, None, 7)])

    def test_all_small_maps(self):
        ways = [
            lambda value: value,
            lambda value: 5 if value is None else None,
            lambda value: 1 if value == 2 else value,
            lambda value: {None: 2, 1: None, 2: 1}[value],
        ]
        for pieces in small_maps(3):
            for way in ways:
                self.assertEqual(turned(pieces, way), plain_map(lambda place: way(told_at(pieces, place)), -1, 3))

    def test_three_hundred_pieces(self):
        pieces = many_pieces(300)
        self.check_same(turned(pieces, lambda value: value), pieces)
        self.assertEqual(len(turned(pieces, lambda value: 9 if value is None else None)), 301)

    def test_what_is_given_stays(self):
        self.check_kept(turned, list(THREE), lambda value: value)
        self.check_kept(turned, list(ENDLESS), lambda value: 4)
        self.check_kept(turned, [], lambda value: value)

    def test_five_hundred_figures(self):
        self.check_same(turned([(-LARGE, LARGE, LARGE)], lambda value: None if value is None else -value),
                        [(-LARGE, LARGE, -LARGE)])


class TestMerged(SpanTest):

    def check_clash(self, one, other, places):
        for ours, theirs in ((one, other), (other, one)):
            clash = self.check_refused(Clash, merged, ours, theirs)
            self.assertIs(type(clash.place), int)
            if places is not None:
                self.assertIn(clash.place, places)
            self.check_same(clash.one, told_at(ours, clash.place))
            self.check_same(clash.other, told_at(theirs, clash.place))
            self.assertIsNotNone(clash.one)
            self.assertIsNotNone(clash.other)
            self.assertNotEqual(clash.one, clash.other)

    def check_merged(self, one, other, asked):
        self.check_same(merged(one, other), asked)
        self.check_same(merged(other, one), asked)

    def test_maps_that_agree(self):
        self.check_merged([(0, 5, 1)], [(3, 9, 1)], [(0, 9, 1)])
        self.check_merged([(0, 5, 0)], [(3, 9, 0)], [(0, 9, 0)])
        self.check_merged([(0, 9, 1)], [(3, 5, 1)], [(0, 9, 1)])
        self.check_merged([(None, 5, 1)], [(3, None, 1)], [(None, None, 1)])

    def test_maps_that_lie_apart(self):
        self.check_merged([(0, 3, 1), (8, 9, 2)], [(4, 6, 3)], [(0, 3, 1), (4, 6, 3), (8, 9, 2)])
        self.check_merged([(0, 3, 1)], [(3, 6, 1)], [(0, 6, 1)])
        self.check_merged([(0, 3, 1)], [(3, 6, 0)], [(0, 3, 1), (3, 6, 0)])
        self.check_merged([(None, 3, 1)], [(3, None, 0)], [(None, 3, 1), (3, None, 0)])

    def test_with_itself_and_with_nothing(self):
        for pieces in (THREE, ENDLESS, [], many_pieces(300)):
            self.check_same(merged(pieces, pieces), pieces)
            self.check_merged(pieces, [], pieces)

    def test_unlike_at_one_place_only(self):
        self.check_clash([(0, 5, 1)], [(4, 9, 2)], [4])
        self.check_clash([(0, 9, 1)], [(0, 4, 1), (4, 5, 2), (5, 9, 1)], [4])
        self.check_clash([(0, 9, 1)], [(0, 1, 2), (1, 9, 1)], [0])
        self.check_clash([(0, 9, 1)], [(0, 8, 1), (8, 9, 2)], [8])
        self.check_clash([(4, 5, 0)], [(None, None, 1)], [4])
        self.check_clash([(4, 5, 1)], [(None, None, 0)], [4])
        self.check_clash([(-5, 0, -1)], [(-1, None, -2)], [-1])

    def test_unlike_at_many_places(self):
        self.check_clash([(None, None, 1)], [(None, None, 2)], None)
        self.check_clash([(None, 3, 1)], [(None, 5, 2)], None)
        self.check_clash([(3, None, 1)], [(5, None, 2)], None)
        self.check_clash(THREE, ENDLESS, None)

    def test_all_pairs_of_small_maps(self):
        pieces = small_maps(2)
        for one in pieces:
            for other in pieces:
                values = [(told_at(one, place), told_at(other, place)) for place in range(-1, 3)]
                if any(None not in pair and pair[0] != pair[1] for pair in values):
                    self.check_clash(one, other, None)
                else:
                    told = plain_map(lambda place: first(told_at(one, place), told_at(other, place)), -1, 2)
                    self.assertEqual(merged(one, other), told)

    def test_one_unlike_among_three_hundred(self):
        pieces = many_pieces(300)
        for at in (0, 150, 299):
            low, behind, value = pieces[at]
            self.check_clash(pieces, [(behind - 1, behind, value + 1)], [behind - 1])
            self.check_merged(pieces, [(behind - 1, behind, value)], pieces)

    def test_what_is_given_stays(self):
        self.check_kept(merged, list(THREE), [(8, 12, 5)])
        self.check_kept(merged, list(THREE), [])
        self.check_kept(merged, [], list(THREE))
        self.check_kept(lambda other: merged([(8, 12, 5)], other), list(THREE))
        self.check_kept(lambda pieces: merged(pieces, pieces), list(THREE))
        one, other = list(THREE), list(ENDLESS)
        self.check_refused(Clash, merged, one, other)
        self.assertEqual((one, other), (THREE, ENDLESS))

    def test_five_hundred_figures(self):
        self.check_clash([(-LARGE, LARGE, LARGE)], [(LARGE - 1, LARGE, LARGE - 1)], [LARGE - 1])
        self.check_merged([(-LARGE, 0, LARGE)], [(0, LARGE, LARGE)], [(-LARGE, LARGE, LARGE)])


if __name__ == "__main__":
    unittest.main()
