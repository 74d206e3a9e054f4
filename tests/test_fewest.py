import itertools
import random
import unittest

from helper import LARGE, SpanTest, many_pieces
from spanmap import fewest as fewest_module
from spanmap.errors import NoEnd, TooMuch
from spanmap.fewest import fewest
from spanmap.rules import laid

EIGHT = [(2 * k, 2 * k + 1, 5) for k in range(8)]


def pieces_at(places, length=1, value=1):
    return [(place, place + length, value) for place in places]


def all_rows(pieces):
    """All rows of pieces, alike in length and value, that lie evenly apart; each as the sum of its pieces' bits."""
    bits = {piece: 2 ** number for number, piece in enumerate(pieces)}
    rows = set(bits.values())
    for low, behind, value in pieces:
        for other in pieces:
            step = other[0] - low
            times, made = 1, bits[(low, behind, value)]
            while step > 0 and (low + times * step, behind + times * step, value) in bits:
                made |= bits[(low + times * step, behind + times * step, value)]
                times += 1
                rows.add(made)
    return rows


def plain_fewest(pieces):
    """How many rules are needed, by going through all lists of one rule, then of two, and so on."""
    rows = all_rows(pieces)
    reached = {0}
    many = 0
    while 2 ** len(pieces) - 1 not in reached:
        reached = {made | row for made in reached for row in rows}
        many += 1
    return many


class TestFewest(SpanTest):

    def check_fewest(self, pieces, many=None):
        told = fewest(pieces)
        self.assertIs(type(told), list)
        made = []
        for rule in told:
            self.check_same([type(rule), *[type(number) for number in rule]], [tuple] + [int] * 5)
            low, behind, step, times, value = rule
            self.assertTrue(step == 0 if times == 1 else step > behind - low)
            self.assertIn(times, range(1, 101))
            made.extend([(low + k * step, behind + k * step, value) for k in range(times)])
        self.assertEqual(set(made), set(pieces))
        self.assertEqual(len(told), plain_fewest(pieces))
        if many is not None:
            self.assertEqual(len(told), many)
        self.check_same(laid(told), pieces)

    def test_it_belongs_to_the_fewest_module(self):
        self.check_belongs(fewest_module, ["fewest"])

    def test_none(self):
        self.check_same(fewest([]), [])

    def test_one_piece(self):
        self.check_same(fewest([(3, 5, 7)]), [(3, 5, 0, 1, 7)])
        self.check_same(fewest([(-LARGE, LARGE, 0)]), [(-LARGE, LARGE, 0, 1, 0)])

    def test_evenly_apart(self):
        self.check_same(fewest([(3, 5, 7), (9, 11, 7)]), [(3, 5, 6, 2, 7)])
        self.check_same(fewest(EIGHT), [(0, 1, 2, 8, 5)])
        self.check_same(fewest(pieces_at(range(-9, 20, 4), 3, 0)), [(-9, -6, 4, 8, 0)])

    def test_unevenly_apart(self):
        self.check_fewest(pieces_at([0, 2, 6]), 2)
        self.check_fewest(pieces_at([0, 2, 6, 14, 30, 62, 126, 254]), 4)
        self.check_fewest(pieces_at([0, 2, 6, 14, 30, 62, 126]), 4)
        self.check_fewest(pieces_at([0, 3, 6, 9, 30, 60, 90, 111]), 3)

    def test_several_rows_at_once(self):
        self.check_fewest(pieces_at(sorted([0, 20, 40, 60, 26, 32, 14])), 2)
        self.check_fewest(pieces_at(sorted([0, 30, 60, 90, 40, 50, 70])), 2)
        self.check_fewest(pieces_at(sorted([0, 8, 16, 24, 3, 13, 18])), 2)

    def test_the_longest_row_is_not_always_a_good_beginning(self):
        self.check_fewest(pieces_at([2, 8, 10, 20, 28, 30, 32, 36]), 3)
        self.check_fewest(pieces_at([6, 8, 20, 22, 26, 28, 32, 34]), 3)
        self.check_fewest(pieces_at([0, 2, 10, 20, 28, 34, 36, 38]), 3)

    def test_unlike_values_and_lengths(self):
        self.check_fewest([(0, 1, 1), (2, 3, 2), (4, 5, 1), (6, 7, 2), (8, 9, 1), (10, 11, 2)], 2)
        self.check_fewest([(0, 1, 1), (2, 4, 1), (5, 6, 1), (7, 9, 1)], 2)
        self.check_fewest([(0, 1, 1), (2, 4, 1), (5, 8, 1), (9, 13, 1)], 4)
        self.check_fewest([(0, 1, 1), (1, 2, 2), (2, 3, 1), (3, 4, 2), (4, 5, 1), (5, 6, 2), (6, 7, 1), (7, 8, 2)], 2)
        self.check_fewest([(0, 1, 1), (1, 2, 2), (2, 3, 3), (3, 4, 4)], 4)
        self.check_fewest([(0, 2, 1), (4, 5, 1), (8, 10, 1), (12, 14, 1)], 3)

    def test_all_small_maps(self):
        for many in range(9):
            for places in itertools.combinations(range(0, 20, 2), many):
                self.check_fewest(pieces_at(places))

    def test_places_in_all_distances(self):
        chance = random.Random(5)
        for number in range(1000):
            far = chance.choice([12, 16, 24])
            self.check_fewest(pieces_at(sorted(chance.sample(range(0, 2 * far, 2), chance.randrange(5, 9)))))

    def test_maps_of_many_kinds(self):
        chance = random.Random(11)
        for number in range(1000):
            pieces = []
            here = chance.randrange(-20, 20)
            for piece in range(chance.randrange(1, 9)):
                length, value = chance.choice([(1, 1), (1, 1), (1, 2), (2, 1), (2, 2)])
                gap = chance.choice([0, 1, 1, 2, 3])
                if pieces and gap == 0 and pieces[-1][2] == value:
                    gap = 1
                pieces.append((here + gap, here + gap + length, value))
                here += gap + length
            self.check_fewest(pieces)

    def test_five_hundred_figures(self):
        step = LARGE // 7
        self.check_fewest([(k * step, k * step + 1, LARGE) for k in range(8)], 1)
        self.check_fewest([(-LARGE, -LARGE + 5, 1), (-5, 0, 1), (LARGE - 9, LARGE - 4, 1)], 2)
        self.check_fewest([(-LARGE, -LARGE + 5, 1), (0, 5, 1), (LARGE, LARGE + 5, 1)], 1)
        self.check_fewest([(-LARGE, -1, 1), (0, LARGE - 1, 1)], 1)

    def test_without_an_end(self):
        for pieces in ([(None, None, 1)], [(None, 0, 1)], [(0, None, 1)], [(0, 1, 1), (5, None, 1)],
                       [(None, 0, 1), (5, 6, 1)], [(None, 0, 1), (5, None, 1)], EIGHT[:7] + [(90, None, 1)]):
            self.check_refused(NoEnd, fewest, pieces)

    def test_without_an_end_goes_ahead_of_too_many_pieces(self):
        self.check_refused(NoEnd, fewest, EIGHT + [(90, None, 1)])
        self.check_refused(NoEnd, fewest, [(None, -9, 1)] + EIGHT)
        self.check_refused(NoEnd, fewest, [(None, -9, 1)] + many_pieces(298) + [(LARGE, None, 1)])

    def test_too_many_pieces(self):
        self.check_refused(TooMuch, fewest, EIGHT + [(90, 91, 5)])
        self.check_refused(TooMuch, fewest, [(2 * k, 2 * k + 1, 5) for k in range(9)])
        self.check_refused(TooMuch, fewest, many_pieces(300))

    def test_what_is_given_stays(self):
        for given in ([], list(EIGHT), [(0, 1, 1), (5, 9, 2)]):
            self.check_kept(fewest, given)


if __name__ == "__main__":
    unittest.main()
