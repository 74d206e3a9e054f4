import itertools
import unittest

from helper import LARGE, SpanTest, lies_in, many_pieces, plain_map, small_maps, spans_within, told_at
from spanmap import maps
from spanmap.maps import formed, is_map, knit, parting

GOOD = [
    [],
    [(3, 9, 1)],
    [(3, 4, 0)],
    [(None, None, 5)],
    [(None, 0, 5)],
    [(0, None, 5)],
    [(None, 0, 5), (0, None, 6)],
    [(None, 0, 5), (1, None, 5)],
    [(0, 3, 1), (3, 6, 2), (6, 9, 1)],
    [(0, 3, 1), (4, 6, 1), (7, 9, 1)],
    [(-9, -6, -1), (-6, -3, 0), (-3, 0, 1), (0, 3, 0)],
    [(-LARGE, LARGE, -LARGE)],
    [(None, -LARGE, LARGE), (LARGE, None, LARGE)],
]
THREE = [(0, 3, 1), (5, 8, 2), (8, 12, 3)]


class TestIsMap(SpanTest):

    def check_no_map(self, rows):
        ahead = list(rows)
        self.assertIs(is_map(rows), False, rows)
        self.assertEqual(rows, ahead)

    def test_the_names_belong_to_the_maps_module(self):
        self.check_belongs(maps, ["knit", "is_map", "formed", "parting"])

    def test_good_maps(self):
        for rows in GOOD + [THREE, many_pieces(300), many_pieces(300, 0, 2, 0)]:
            ahead = list(rows)
            self.assertIs(is_map(rows), True, rows)
            self.assertEqual(rows, ahead)

    def test_all_small_maps(self):
        for pieces in small_maps(3):
            self.assertIs(is_map(pieces), True, pieces)

    def test_one_piece_that_is_no_span(self):
        for low, behind in ((3, 3), (4, 3), (0, 0), (1, 0), (0, -1), (LARGE, LARGE), (LARGE, -LARGE)):
            self.check_no_map([(low, behind, 1)])

    def test_ends_turned_about(self):
        self.check_no_map([(3, 0, 1), (5, 8, 2), (8, 12, 3)])
        self.check_no_map([(0, 3, 1), (8, 5, 2), (8, 12, 3)])
        self.check_no_map([(0, 3, 1), (5, 8, 2), (12, 8, 3)])

    def test_a_piece_without_places(self):
        self.check_no_map([(0, 0, 1), (5, 8, 2), (8, 12, 3)])
        self.check_no_map([(0, 3, 1), (5, 5, 2), (8, 12, 3)])
        self.check_no_map([(0, 3, 1), (4, 4, 2), (8, 12, 3)])
        self.check_no_map([(0, 3, 1), (5, 8, 2), (8, 8, 3)])
        self.check_no_map([(0, 3, 1), (5, 8, 2), (9, 9, 3)])

    def test_a_place_in_common(self):
        self.check_no_map([(0, 6, 1), (5, 8, 2), (8, 12, 3)])
        self.check_no_map([(0, 6, 1), (5, 8, 1), (8, 12, 3)])
        self.check_no_map([(0, 3, 1), (2, 8, 2), (8, 12, 3)])
        self.check_no_map([(0, 3, 1), (5, 9, 2), (8, 12, 3)])
        self.check_no_map([(0, 3, 1), (5, 8, 2), (7, 12, 3)])
        self.check_no_map([(0, 9, 1), (0, 9, 2)])

    def test_a_missing_end_towards_a_neighbour(self):
        self.check_no_map([(0, None, 1), (5, 8, 2), (8, 12, 3)])
        self.check_no_map([(0, 3, 1), (None, 8, 2), (8, 12, 3)])
        self.check_no_map([(0, 3, 1), (5, None, 2), (8, 12, 3)])
        self.check_no_map([(0, 3, 1), (None, None, 2), (8, 12, 3)])
        self.check_no_map([(0, 3, 1), (5, 8, 2), (None, 12, 3)])
        self.check_no_map([(0, None, 1), (None, 8, 2)])
        self.check_no_map([(None, None, 1), (None, None, 2)])

    def test_touching_with_values_alike(self):
        self.check_no_map([(0, 3, 1), (3, 8, 1), (8, 12, 3)])
        self.check_no_map([(0, 3, 1), (5, 8, 3), (8, 12, 3)])
        self.check_no_map([(None, 0, 0), (0, None, 0)])

    def test_out_of_their_order(self):
        for rows in itertools.permutations(THREE):
            if list(rows) != THREE:
                self.check_no_map(list(rows))
        self.check_no_map([(0, None, 1), (None, 0, 2)])

    def test_one_fault_among_three_hundred(self):
        good = many_pieces(300)
        for at in (0, 150, 299):
            low, behind, value = good[at]
            for wrong in ((behind, low, value), (low, low, value)):
                self.check_no_map(good[:at] + [wrong] + good[at + 1:])

    def test_all_lists_of_two_small_rows(self):
        ends = [None, 0, 1, 2]
        rows = [(low, behind, value) for low in ends for behind in ends for value in (1, 2)]
        good = small_maps(2, (None, 1, 2))
        for pair in itertools.product(rows, rows):
            self.assertIs(is_map(list(pair)), list(pair) in good, pair)


class TestKnit(SpanTest):

    def test_good_maps_stay(self):
        for rows in GOOD + [THREE, many_pieces(300)]:
            self.check_same(knit(rows), rows)

    def test_none_is_nothing(self):
        self.check_same(knit([(0, 3, None)]), [])
        self.check_same(knit([(None, None, None)]), [])
        self.check_same(knit([(None, 0, None), (0, 3, 1), (3, 5, None), (5, 8, 2), (8, None, None)]),
                        [(0, 3, 1), (5, 8, 2)])
        self.check_same(knit([(0, 3, 1), (3, 5, None), (5, 8, 1)]), [(0, 3, 1), (5, 8, 1)])

    def test_nought_is_a_value(self):
        self.check_same(knit([(0, 3, 0), (3, 5, None), (6, 8, 0)]), [(0, 3, 0), (6, 8, 0)])
        self.check_same(knit([(None, 0, 0), (0, 5, 0)]), [(None, 5, 0)])

    def test_touching_with_values_alike(self):
        self.check_same(knit([(0, 3, 1), (3, 5, 1)]), [(0, 5, 1)])
        self.check_same(knit([(0, 3, 1), (3, 5, 1), (5, 6, 1), (6, 9, 2), (9, 10, 2)]), [(0, 6, 1), (6, 10, 2)])
        self.check_same(knit([(0, 3, 1), (4, 5, 1)]), [(0, 3, 1), (4, 5, 1)])
        self.check_same(knit([(0, 3, 1), (3, 5, 2), (5, 6, 1)]), [(0, 3, 1), (3, 5, 2), (5, 6, 1)])

    def test_without_ends(self):
        self.check_same(knit([(None, 0, 4), (0, None, 4)]), [(None, None, 4)])
        self.check_same(knit([(None, 0, 4), (0, None, 5)]), [(None, 0, 4), (0, None, 5)])
        self.check_same(knit([(None, 0, 4), (0, 1, 4), (1, None, 4)]), [(None, None, 4)])
        self.check_same(knit([(None, 0, 4), (1, None, 4)]), [(None, 0, 4), (1, None, 4)])
        self.check_same(knit([(None, 0, None), (0, None, 5)]), [(0, None, 5)])
        self.check_same(knit([(None, 0, 5), (0, None, None)]), [(None, 0, 5)])

    def test_all_small_rows(self):
        cuts = [None, 0, 1, 2, 4, None]
        for values in itertools.product((None, 0, 1), repeat=5):
            rows = [(cuts[k], cuts[k + 1], values[k]) for k in range(5)]
            for left_out in (None, 0, 2, 4):
                kept = [row for k, row in enumerate(rows) if k != left_out]
                self.check_same(knit(kept), plain_map(lambda place: told_at(kept, place), -1, 5))

    def test_three_hundred_become_one(self):
        self.check_same(knit([(k, k + 1, 6) for k in range(300)]), [(0, 300, 6)])

    def test_what_is_given_stays(self):
        self.check_kept(knit, [(0, 3, 1), (3, 5, 1), (5, 6, None), (6, 9, 2)])
        self.check_kept(knit, [])
        self.check_kept(knit, [(3, 9, 1)])

    def test_five_hundred_figures(self):
        self.check_same(knit([(-LARGE, 0, LARGE), (0, LARGE, LARGE)]), [(-LARGE, LARGE, LARGE)])
        self.check_same(knit([(-LARGE, 0, LARGE), (0, LARGE, LARGE - 1)]), [(-LARGE, 0, LARGE), (0, LARGE, LARGE - 1)])


class TestFormed(SpanTest):

    def test_nothing_and_one_row(self):
        self.check_same(formed([]), [])
        self.check_same(formed([((3, 9), 1)]), [(3, 9, 1)])
        self.check_same(formed([((3, 9), 0)]), [(3, 9, 0)])
        self.check_same(formed([((3, 9), None)]), [])
        self.check_same(formed([((None, None), 7)]), [(None, None, 7)])
        self.check_same(formed([((None, None), None)]), [])

    def test_in_any_order(self):
        self.check_same(formed([((8, 9), 1), ((0, 3), 2), ((5, 6), 3)]), [(0, 3, 2), (5, 6, 3), (8, 9, 1)])

    def test_a_later_row_lies_over_an_earlier_one(self):
        self.check_same(formed([((0, 9), 1), ((3, 5), 2)]), [(0, 3, 1), (3, 5, 2), (5, 9, 1)])
        self.check_same(formed([((3, 5), 2), ((0, 9), 1)]), [(0, 9, 1)])
        self.check_same(formed([((0, 5), 1), ((3, 9), 2)]), [(0, 3, 1), (3, 9, 2)])
        self.check_same(formed([((3, 9), 2), ((0, 5), 1)]), [(0, 5, 1), (5, 9, 2)])

    def test_none_takes_out(self):
        self.check_same(formed([((0, 9), 1), ((3, 5), None)]), [(0, 3, 1), (5, 9, 1)])
        self.check_same(formed([((3, 5), None), ((0, 9), 1)]), [(0, 9, 1)])
        self.check_same(formed([((0, 9), 1), ((None, None), None)]), [])
        self.check_same(formed([((None, None), 1), ((0, 1), None)]), [(None, 0, 1), (1, None, 1)])

    def test_values_alike_become_one_piece(self):
        self.check_same(formed([((0, 3), 1), ((3, 5), 1)]), [(0, 5, 1)])
        self.check_same(formed([((3, 5), 1), ((0, 3), 1)]), [(0, 5, 1)])
        self.check_same(formed([((0, 9), 1), ((3, 5), 2), ((3, 5), 1)]), [(0, 9, 1)])

    def test_without_ends(self):
        self.check_same(formed([((None, 5), 1), ((3, None), 2)]), [(None, 3, 1), (3, None, 2)])
        self.check_same(formed([((3, None), 2), ((None, 5), 1)]), [(None, 5, 1), (5, None, 2)])
        self.check_same(formed([((None, 5), 1), ((5, None), 1)]), [(None, None, 1)])

    def test_all_small_rows(self):
        rows = [(over, value) for over in spans_within(0, 2) for value in (None, 1, 2)]
        for turn in itertools.product(rows, repeat=3):
            def tell(place):
                standing = [value for over, value in turn if lies_in(over, place)]
                return standing[-1] if standing else None
            self.assertEqual(formed(list(turn)), plain_map(tell, -1, 2))

    def test_three_hundred_rows(self):
        told = formed([((k, 600 - k), k) for k in range(300)])
        left = [(k, k + 1, k) for k in range(299)]
        right = [(600 - k - 1, 600 - k, k) for k in range(298, -1, -1)]
        self.check_same(told, left + [(299, 301, 299)] + right)
        self.check_same(formed([((k, 600 - k), k) for k in range(299, -1, -1)]), [(0, 600, 0)])

    def test_what_is_given_stays(self):
        self.check_kept(formed, [((0, 9), 1), ((3, 5), None), ((None, 0), 2)])
        self.check_kept(formed, [])

    def test_five_hundred_figures(self):
        self.check_same(formed([((-LARGE, LARGE), LARGE), ((0, 1), -LARGE)]),
                        [(-LARGE, 0, LARGE), (0, 1, -LARGE), (1, LARGE, LARGE)])


class TestParting(SpanTest):

    def check_parting(self, one, other):
        for first, second in ((one, other), (other, one)):
            place = parting(first, second)
            self.assertIs(type(place), int, (first, second))
            self.assertNotEqual(told_at(first, place), told_at(second, place), place)

    def test_equal_maps(self):
        for pieces in GOOD + [THREE, many_pieces(300)]:
            self.assertIsNone(parting(pieces, list(pieces)))
            self.assertIsNone(parting(pieces, pieces))

    def test_at_one_place_only(self):
        whole = [(0, 9, 1)]
        for one in ([(0, 4, 1), (5, 9, 1)], [(0, 4, 1), (4, 5, 2), (5, 9, 1)]):
            self.check_parting(whole, one)
            self.assertEqual(parting(whole, one), 4)
            self.assertEqual(parting(one, whole), 4)
        self.assertEqual(parting(whole, [(-1, 9, 1)]), -1)
        self.assertEqual(parting(whole, [(0, 10, 1)]), 9)
        self.assertEqual(parting(whole, [(1, 9, 1)]), 0)
        self.assertEqual(parting(whole, [(0, 8, 1)]), 8)

    def test_ahead_of_all_and_behind_all(self):
        self.check_parting(THREE, [(None, 0, 1)] + THREE[1:])
        self.check_parting(THREE, [(-1, 3, 1)] + THREE[1:])
        self.check_parting(THREE, [(-9, -8, 0)] + THREE)
        self.check_parting(THREE, [(None, -8, 0)] + THREE)
        self.check_parting(THREE, THREE + [(20, 21, 0)])
        self.check_parting(THREE, THREE + [(20, None, 0)])
        self.check_parting(THREE, THREE[:-1] + [(8, None, 3)])

    def test_without_ends(self):
        self.check_parting([], [(None, None, 0)])
        self.check_parting([(None, None, 1)], [(None, None, 0)])
        self.check_parting([(None, 0, 1)], [(None, 1, 1)])
        self.check_parting([(0, None, 1)], [(1, None, 1)])
        self.check_parting([(None, 0, 1)], [(None, 0, 2)])
        self.check_parting([(None, 0, 1)], [])

    def test_all_pairs_of_small_maps(self):
        pieces = small_maps(2)
        for one in pieces:
            for other in pieces:
                if one == other:
                    self.assertIsNone(parting(one, other))
                else:
                    self.check_parting(one, other)

    def test_one_unlike_among_three_hundred(self):
        one = many_pieces(300)
        for at in (0, 1, 150, 298, 299):
            low, behind, value = one[at]
            for part in ((low, behind, value + 1), (low, behind - 1, value), (low + 1, behind, value)):
                self.check_parting(one, one[:at] + [part] + one[at + 1:])

    def test_what_is_given_stays(self):
        one, other = list(THREE), [(0, 3, 1), (5, 9, 2)]
        parting(one, other)
        parting(other, one)
        self.assertEqual((one, other), (THREE, [(0, 3, 1), (5, 9, 2)]))

    def test_five_hundred_figures(self):
        self.assertEqual(parting([(-LARGE, LARGE, LARGE)], [(-LARGE, LARGE - 1, LARGE)]), LARGE - 1)
        self.check_parting([(-LARGE, LARGE, LARGE)], [(-LARGE, LARGE, LARGE - 1)])


if __name__ == "__main__":
    unittest.main()
