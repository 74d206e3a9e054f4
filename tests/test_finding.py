import unittest

from helper import LARGE, SpanTest, lies_in, many_pieces, small_maps, told_at
from spanmap import finding
from spanmap.finding import run_at, value_at

# Two pieces that touch, a gap, and a piece by itself.
ENDED = [(-4, 0, 1), (0, 3, 2), (5, 6, 0)]
ENDLESS = [(None, 0, 1), (3, 5, 2), (6, None, 3)]


class TestValueAt(SpanTest):

    def test_the_names_belong_to_the_finding_module(self):
        self.check_belongs(finding, ["value_at", "run_at"])

    def test_no_pieces(self):
        for place in (-LARGE, -1, 0, 1, LARGE):
            self.assertIsNone(value_at([], place))

    def test_at_and_beside_each_end(self):
        asked = [-LARGE, -5, -4, -3, -1, 0, 1, 2, 3, 4, 5, 6, 7, LARGE]
        self.check_same([value_at(ENDED, place) for place in asked],
                        [None, None, 1, 1, 1, 2, 2, 2, None, None, 0, None, None, None])

    def test_without_ends(self):
        asked = [-LARGE, -2, -1, 0, 1, 2, 3, 4, 5, 6, 7, LARGE]
        self.check_same([value_at(ENDLESS, place) for place in asked],
                        [1, 1, 1, None, None, None, 2, 2, None, 3, 3, 3])
        for place in (-LARGE, 0, LARGE):
            self.check_same(value_at([(None, None, -6)], place), -6)
            self.check_same(value_at([(None, None, 0)], place), 0)

    def test_all_small_maps(self):
        for pieces in small_maps(3):
            for place in range(-4, 8):
                self.check_same(value_at(pieces, place), told_at(pieces, place))

    def test_three_hundred_pieces(self):
        for pieces in (many_pieces(300), many_pieces(300, -700, 2, 0), many_pieces(300, -700, 1, 1)):
            low, behind = pieces[0][0], pieces[-1][1]
            stands = {place: value for first, end, value in pieces for place in range(first, end)}
            for place in range(low - 3, behind + 3):
                self.check_same(value_at(pieces, place), stands.get(place))

    def test_what_is_given_stays(self):
        pieces = list(ENDED)
        for turn in range(2):
            self.check_same(value_at(pieces, 1), 2)
            self.assertIsNone(value_at(pieces, 4))
        self.assertEqual(pieces, ENDED)

    def test_five_hundred_figures(self):
        pieces = [(-LARGE, 1 - LARGE, -LARGE), (0, LARGE, LARGE)]
        self.check_same([value_at(pieces, place) for place in (-LARGE, 1 - LARGE, -1, 0, LARGE - 1, LARGE)],
                        [-LARGE, None, None, LARGE, LARGE, None])


class TestRunAt(SpanTest):

    def test_no_pieces(self):
        for place in (-LARGE, 0, LARGE):
            self.check_same(run_at([], place), (None, None))

    def test_within_a_piece(self):
        for place in (-4, -3, -1):
            self.check_same(run_at(ENDED, place), (-4, 0))
        for place in (0, 1, 2):
            self.check_same(run_at(ENDED, place), (0, 3))
        self.check_same(run_at(ENDED, 5), (5, 6))

    def test_within_a_gap(self):
        for place in (3, 4):
            self.check_same(run_at(ENDED, place), (3, 5))
        for place in (0, 1, 2):
            self.check_same(run_at(ENDLESS, place), (0, 3))
        self.check_same(run_at(ENDLESS, 5), (5, 6))

    def test_ahead_of_the_first_and_behind_the_last(self):
        for place in (-LARGE, -6, -5):
            self.check_same(run_at(ENDED, place), (None, -4))
        for place in (6, 7, LARGE):
            self.check_same(run_at(ENDED, place), (6, None))

    def test_pieces_without_ends(self):
        for place in (-LARGE, -1):
            self.check_same(run_at(ENDLESS, place), (None, 0))
        for place in (6, LARGE):
            self.check_same(run_at(ENDLESS, place), (6, None))
        self.check_same(run_at([(None, None, 4)], 0), (None, None))

    def test_nothing_is_unlike_nought(self):
        self.check_same(run_at([(0, 3, 0)], 1), (0, 3))
        self.check_same(run_at([(0, 3, 0)], 3), (3, None))

    def test_all_small_maps(self):
        for pieces in small_maps(3):
            for place in range(-3, 7):
                told = run_at(pieces, place)
                self.assertIs(type(told), tuple)
                low, behind = told
                self.assertTrue(lies_in(told, place))
                value = told_at(pieces, place)
                for other in range(-6, 10):
                    if lies_in(told, other):
                        self.assertEqual(told_at(pieces, other), value)
                if low is not None:
                    self.assertNotEqual(told_at(pieces, low - 1), value)
                if behind is not None:
                    self.assertNotEqual(told_at(pieces, behind), value)

    def test_three_hundred_pieces(self):
        pieces = many_pieces(300)
        for k, (low, behind, value) in enumerate(pieces):
            self.check_same(run_at(pieces, low), (low, behind))
            self.check_same(run_at(pieces, behind - 1), (low, behind))
            after = pieces[k + 1][0] if k < 299 else None
            self.check_same(run_at(pieces, behind), (behind, after))
        self.check_same(run_at(pieces, -1), (None, 0))

    def test_what_is_given_stays(self):
        pieces = list(ENDED)
        for turn in range(2):
            self.check_same(run_at(pieces, 1), (0, 3))
        self.assertEqual(pieces, ENDED)

    def test_five_hundred_figures(self):
        pieces = [(-LARGE, 1 - LARGE, -LARGE), (0, LARGE, LARGE)]
        self.check_same(run_at(pieces, -5), (1 - LARGE, 0))
        self.check_same(run_at(pieces, LARGE - 1), (0, LARGE))
        self.check_same(run_at(pieces, LARGE), (LARGE, None))


if __name__ == "__main__":
    unittest.main()
