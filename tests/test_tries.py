import itertools
import unittest

from helper import LARGE, SpanTest, lies_in, many_pieces, small_maps, told_at
from spanmap import tries
from spanmap.errors import NoCount
from spanmap.tries import first_run

THREE = [(0, 4, 1), (4, 8, 2), (12, 16, 1)]
ENDLESS = [(None, 0, 1), (3, 5, 2), (9, None, 1)]


def among(*held):
    return lambda value: value in held


def never(value):
    return False


def always(value):
    return True


def places_within(pieces, span):
    """Places of the span such that whatever the map tells at one of its places, it tells at one of these."""
    ends = [end for low, behind, value in pieces for end in (low, behind) if end is not None]
    return [place for place in {span[0], *ends} if lies_in(span, place)]


class TriesTest(SpanTest):

    def check_paper(self, pieces, start, many, test, place, paper):
        """All that point 21 says of a paper."""
        self.assertIs(type(paper), list)
        here = start
        for span in paper:
            self.assertIs(type(span), tuple)
            low, behind = span
            self.assertIs(type(low), int)
            self.assertLessEqual(here, low)
            self.assertLess(low, here + many)
            self.assertTrue(behind is None or low < behind)
            for inner in places_within(pieces, span):
                self.assertFalse(test(told_at(pieces, inner)))
            here = behind
            if here is None:
                break
        if paper:
            self.check_same(paper[-1][1], place)
            self.assertNotIn(None, [behind for low, behind in paper[:-1]])
        else:
            self.check_same(place, start)
        self.assertLessEqual(len(paper), 2 * len(pieces) + 2)

    def check_run(self, pieces, start, many, test, place):
        told = first_run(pieces, start, many, test)
        self.assertIs(type(told), tuple)
        self.assertEqual(len(told), 2)
        self.check_same(told[0], place)
        self.check_paper(pieces, start, many, test, told[0], told[1])


class TestFirstRun(TriesTest):

    def test_it_belongs_to_the_tries_module(self):
        self.check_belongs(tries, ["first_run"])

    def test_a_paper_of_one_span(self):
        self.check_same(first_run(THREE, -5, 3, among(1)), (0, [(-5, 0)]))
        self.check_same(first_run([], 3, 2, among(1)), (None, [(3, None)]))
        self.check_same(first_run([], 3, 2, among(None)), (3, []))

    def test_of_one_value(self):
        self.check_run(THREE, -5, 4, among(1), 0)
        self.check_run(THREE, -5, 5, among(1), None)
        self.check_run(THREE, 0, 4, among(1), 0)
        self.check_run(THREE, 1, 4, among(1), 12)
        self.check_run(THREE, 1, 3, among(1), 1)
        self.check_run(THREE, 0, 4, among(2), 4)
        self.check_run(THREE, 5, 4, among(2), None)

    def test_of_several_values(self):
        self.check_run(THREE, -5, 8, among(1, 2), 0)
        self.check_run(THREE, -5, 9, among(1, 2), None)
        self.check_run(THREE, 1, 8, among(1, 2), None)
        self.check_run(THREE, 1, 7, among(1, 2), 1)
        self.check_run(THREE, 2, 10, among(2, None), 16)
        self.check_run(THREE, 2, 8, among(2, None), 4)

    def test_of_nothing(self):
        self.check_run(THREE, 0, 4, among(None), 8)
        self.check_run(THREE, 0, 5, among(None), 16)
        self.check_run(THREE, 9, 4, among(None), 16)
        self.check_run(THREE, -9, 9, among(None), -9)
        self.check_run(THREE, -9, 10, among(None), 16)
        self.check_run(ENDLESS, -9, 4, among(None), 5)
        self.check_run(ENDLESS, -9, 5, among(None), None)

    def test_of_everything_and_never(self):
        for pieces in ([], THREE, ENDLESS, [(None, None, 0)]):
            for start in (-9, 0, 4, 40):
                for many in (1, 2, LARGE):
                    self.check_run(pieces, start, many, always, start)
                    self.check_run(pieces, start, many, never, None)

    def test_starts_at_beside_and_within(self):
        for start, place in ((-1, 0), (0, 0), (1, 1), (2, 2), (3, 12), (4, 12), (8, 12), (11, 12), (12, 12),
                             (14, 14), (15, None), (16, None), (17, None), (99, None)):
            self.check_run(THREE, start, 2, among(1), place)

    def test_without_ends(self):
        self.check_run(ENDLESS, -9, 9, among(1), -9)
        self.check_run(ENDLESS, -9, 10, among(1), 9)
        self.check_run(ENDLESS, -9, LARGE, among(1), 9)
        self.check_run(ENDLESS, 50, LARGE, among(1), 50)
        self.check_run(ENDLESS, -9, 2, among(2), 3)
        self.check_run(ENDLESS, -9, 3, among(2), None)
        self.check_run([(None, None, 0)], 5, 7, among(0), 5)
        self.check_run([(None, None, 0)], 5, 7, among(None), None)
        self.check_run([(None, 4, 0)], -4, 8, among(0), -4)
        self.check_run([(None, 4, 0)], -4, 9, among(0), None)
        self.check_run([(4, None, 0)], -4, 9, among(0), 4)

    def test_neighbouring_stretches_of_unlike_values(self):
        pieces = [(0, 2, 1), (2, 3, 2), (3, 6, 3), (7, 9, 4), (9, 14, 5), (14, 15, 1), (15, 20, 9)]
        self.check_run(pieces, 0, 6, among(1, 2, 3, 4, 5), 0)
        self.check_run(pieces, 0, 7, among(1, 2, 3, 4, 5), 7)
        self.check_run(pieces, 0, 8, among(1, 2, 3, 4, 5), 7)
        self.check_run(pieces, 0, 9, among(1, 2, 3, 4, 5), None)
        self.check_run(pieces, 0, 9, among(1, 2, 3, 4, 5, None), 0)
        self.check_run(pieces, 8, 7, among(4, 5, 1), 8)
        self.check_run(pieces, 1, 20, lambda value: value != 9, 20)

    def test_all_small_maps(self):
        tests = [among(*held) for many in range(4) for held in itertools.combinations((None, 1, 2), many)]
        for pieces in small_maps(3):
            told = {place: told_at(pieces, place) for place in range(-5, 25)}
            for test, start, many in itertools.product(tests, range(-4, 7), (1, 2, 3, 4, 5, 9)):
                holds = [place for place in range(start, 10)
                         if all([test(told[inner]) for inner in range(place, place + many)])]
                self.check_run(pieces, start, many, test, holds[0] if holds else None)

    def test_three_hundred_pieces(self):
        pieces = many_pieces(300)
        self.check_run(pieces, 0, 3, among(None), 1498)
        self.check_run(pieces, 0, 4, among(0), None)
        self.check_run(pieces, 0, 3, among(3), 30)
        self.check_run(pieces, 0, 1500, lambda value: value != 9, 0)
        self.check_run(pieces, 0, LARGE, among(None), 1498)

    def test_five_hundred_figures(self):
        pieces = [(-LARGE, 0, LARGE), (5, LARGE, 1)]
        self.check_run(pieces, -LARGE, LARGE, among(LARGE), -LARGE)
        self.check_run(pieces, -LARGE + 1, LARGE, among(LARGE), None)
        self.check_run(pieces, -LARGE + 1, LARGE - 1, among(LARGE), -LARGE + 1)
        self.check_run(pieces, -LARGE, LARGE - 5, among(1), 5)
        self.check_run(pieces, -LARGE, LARGE - 4, among(1), None)
        self.check_run(pieces, -LARGE, LARGE, among(None), LARGE)

    def test_many_below_one_is_refused(self):
        for pieces in ([], THREE, ENDLESS):
            for test in (always, never, among(1)):
                for many in (0, -1, -5, -LARGE):
                    self.check_refused(NoCount, first_run, pieces, 0, many, test)

    def test_what_is_given_stays(self):
        for pieces in ([], THREE, ENDLESS):
            given = list(pieces)
            place, paper = first_run(given, -9, 3, among(2))
            self.assertEqual(given, pieces)
            kept = list(paper)
            paper.append((0, 1))
            self.assertEqual(given, pieces)
            self.check_same(first_run(given, -9, 3, among(2)), (place, kept))


if __name__ == "__main__":
    unittest.main()
