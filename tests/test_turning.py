import itertools
import math
import random
import unittest

from helper import LARGE, SpanTest, lies_in, many_pieces, plain_map, plain_wheel, small_wheels, told_at
from spanmap import turning
from spanmap.errors import NoCount, NoEnd, TooMuch
from spanmap.turning import wheel_cut, wheel_joined, wheel_moved, wheel_run
from spanmap.wheels import wheel_of

SEAM = (10, [(0, 3, 1), (5, 6, 2), (8, 10, 1)])


def turn_at(wheel, place):
    return told_at(wheel[1], place % wheel[0])


def first(one, other):
    return other if one is None else one


def added(one, other):
    return (one or 0) + (other or 0)


def both(one, other):
    return None if one is None or other is None else one * 10 + other


def taken(one, other):
    return one if other is None else None


def neither(one, other):
    return 7 if one is None and other is None else None


def nothing(one, other):
    return None


def second(one, other):
    return other


WAYS = (first, added, both, taken, neither, nothing, second)


def wheel_with(turn, many):
    """A wheel of so many pieces; each of its values stands once, so no lesser turn tells the same."""
    return (turn, [(place, place + 1, place) for place in range(many)])


def plain_size(one, other):
    most = math.lcm(one[0], other[0])
    return sum([1 if turn == 1 else most // turn * (len(pieces) + 1) for turn, pieces in (one, other)])


class WheelTest(SpanTest):

    def check_wheel_kept(self, asked, wheel, *rest):
        """The wheel that is given stays as it was, and a list that is told is for the asker to keep."""
        pieces = list(wheel[1])
        told = asked(wheel, *rest)
        told_pieces = told if isinstance(told, list) else told[1]
        kept = list(told_pieces)
        self.assertIsNot(told_pieces, wheel[1])
        told_pieces.append((7, 8, 9))
        self.assertEqual(wheel[1], pieces)
        told = asked(wheel, *rest)
        self.check_same(told if isinstance(told, list) else told[1], kept)


class TestWheelMoved(WheelTest):

    def test_the_names_belong_to_the_turning_module(self):
        self.check_belongs(turning, ["wheel_moved", "wheel_joined", "wheel_cut", "wheel_run"])

    def test_by_nought_and_by_whole_turns(self):
        for wheel in (SEAM, (1, []), (1, [(0, 1, 5)]), (7, [(6, 7, 1)])):
            for turns in (0, 1, -1, 2, -2, 10 ** 400, -10 ** 400):
                self.check_same(wheel_moved(wheel, turns * wheel[0]), wheel)

    def test_by_less_and_more_than_a_turn(self):
        for far in (1, 11, -9, 10 ** 300 + 1):
            self.check_same(wheel_moved(SEAM, far), (10, [(0, 4, 1), (6, 7, 2), (9, 10, 1)]))
        for far in (-1, 9, 19, -11, 10 ** 300 - 1):
            self.check_same(wheel_moved(SEAM, far), (10, [(0, 2, 1), (4, 5, 2), (7, 10, 1)]))
        for far in (2, -8, 42):
            self.check_same(wheel_moved(SEAM, far), (10, [(0, 5, 1), (7, 8, 2)]))
        for far in (4, -6):
            self.check_same(wheel_moved(SEAM, far), (10, [(2, 7, 1), (9, 10, 2)]))

    def test_over_the_seam(self):
        self.check_same(wheel_moved((5, [(0, 2, 1), (2, 5, 2)]), 1), (5, [(0, 1, 2), (1, 3, 1), (3, 5, 2)]))
        self.check_same(wheel_moved((5, [(0, 1, 1), (1, 3, 2), (3, 5, 1)]), 2), (5, [(0, 3, 1), (3, 5, 2)]))

    def test_all_small_wheels(self):
        for wheel in small_wheels(4):
            for far in range(-9, 10):
                told = tuple([turn_at(wheel, place - far) for place in range(wheel[0])])
                self.check_same(wheel_moved(wheel, far), plain_wheel(told))

    def test_three_hundred_pieces(self):
        pieces = [(5 * k, 5 * k + 3, k) for k in range(300)]
        told = wheel_moved((1500, pieces), 1)
        self.check_same(told, (1500, [(low + 1, behind + 1, value) for low, behind, value in pieces]))
        told = wheel_moved((1500, pieces), -1)
        self.assertEqual(told[1][0], (0, 2, 0))
        self.assertEqual(told[1][-1], (1499, 1500, 0))
        self.check_same(wheel_moved(told, 1), (1500, pieces))

    def test_five_hundred_figures(self):
        wheel = (LARGE, [(0, 1, LARGE)])
        self.check_same(wheel_moved(wheel, LARGE - 1), (LARGE, [(LARGE - 1, LARGE, LARGE)]))
        self.check_same(wheel_moved(wheel, -1), (LARGE, [(LARGE - 1, LARGE, LARGE)]))
        self.check_same(wheel_moved(wheel, -LARGE), wheel)
        self.check_same(wheel_moved((7, [(0, 1, 1)]), LARGE), (7, [(LARGE % 7, LARGE % 7 + 1, 1)]))

    def test_what_is_given_stays(self):
        for far in (0, 1, -4):
            self.check_wheel_kept(wheel_moved, (10, list(SEAM[1])), far)


class TestWheelJoined(WheelTest):

    def check_joined(self, one, other, way):
        most = math.lcm(one[0], other[0])
        told = tuple([way(turn_at(one, place), turn_at(other, place)) for place in range(most)])
        self.check_same(wheel_joined(one, other, way), plain_wheel(told))

    def test_all_small_wheels(self):
        all_wheels = small_wheels(3) + small_wheels(4, (None, 1))
        for one, other, way in itertools.product(all_wheels, all_wheels, WAYS):
            self.check_joined(one, other, way)

    def test_larger_wheels(self):
        chance = random.Random(3)
        all_wheels = small_wheels(6, (None, 1)) + small_wheels(5, (1, 2)) + [SEAM]
        for number in range(300):
            self.check_joined(chance.choice(all_wheels), chance.choice(all_wheels), chance.choice(WAYS))

    def test_a_value_where_both_tell_nothing(self):
        self.check_same(wheel_joined((4, [(0, 1, 1)]), (2, [(1, 2, 1)]), neither), (4, [(2, 3, 7)]))
        self.check_same(wheel_joined((1, []), (1, []), neither), (1, [(0, 1, 7)]))

    def test_a_way_that_tells_nothing(self):
        self.check_same(wheel_joined(SEAM, (3, [(0, 1, 1)]), nothing), (1, []))
        self.check_same(wheel_joined((3, [(0, 1, 1)]), (3, [(1, 2, 1)]), both), (1, []))

    def test_a_lesser_turn_than_either(self):
        one, other = (4, [(0, 1, 1), (2, 3, 2)]), (4, [(0, 1, 2), (2, 3, 1)])
        self.check_same(wheel_joined(one, other, added), (2, [(0, 1, 3), (1, 2, 0)]))
        one, other = (6, [(0, 1, 1), (2, 3, 1)]), (6, [(4, 5, 1)])
        self.check_same(wheel_joined(one, other, first), (2, [(0, 1, 1)]))
        self.check_same(wheel_joined((5, [(0, 2, 1)]), (5, [(2, 5, 1)]), first), (1, [(0, 1, 1)]))

    def test_pieces_over_the_seam(self):
        one = (6, [(0, 1, 1), (5, 6, 1)])
        self.check_same(wheel_joined(one, (4, [(0, 1, 1), (3, 4, 1)]), both),
                        (12, [(0, 1, 11), (11, 12, 11)]))

    def test_three_hundred_is_not_too_much(self):
        one, other = wheel_with(200, 149), wheel_with(200, 149)
        self.check_same(wheel_joined(one, other, first), one)
        self.check_same(wheel_joined(wheel_with(400, 298), (1, []), first), wheel_with(400, 298))
        self.check_same(wheel_joined((1, [(0, 1, 5)]), wheel_with(400, 298), second), wheel_with(400, 298))
        self.assertEqual(plain_size((2, [(0, 1, 1)]), wheel_with(75, 74)), 300)
        self.check_joined((2, [(0, 1, 1)]), wheel_with(75, 74), first)
        self.check_joined(wheel_with(75, 74), (2, [(0, 1, 1)]), taken)

    def test_three_hundred_and_one_is_too_much(self):
        self.check_refused(TooMuch, wheel_joined, wheel_with(200, 149), wheel_with(200, 150), first)
        self.check_refused(TooMuch, wheel_joined, wheel_with(200, 150), wheel_with(200, 149), nothing)
        self.check_refused(TooMuch, wheel_joined, wheel_with(400, 299), (1, []), first)
        self.check_refused(TooMuch, wheel_joined, (1, [(0, 1, 5)]), wheel_with(400, 299), first)
        self.assertEqual(plain_size((3, [(0, 1, 1)]), wheel_with(71, 52)), 301)
        self.check_refused(TooMuch, wheel_joined, (3, [(0, 1, 1)]), wheel_with(71, 52), first)
        self.check_refused(TooMuch, wheel_joined, wheel_with(71, 52), (3, [(0, 1, 1)]), first)

    def test_too_much_just_where_the_sum_is_more_than_three_hundred(self):
        chance = random.Random(9)
        sizes = []
        for number in range(400):
            pair = []
            for side in range(2):
                turn = chance.choice([1, 2, 3, 4, 5, 6, 7, 8, 9, 12, 16, 18, 24, 35, 44, 60, 65, 72])
                pair.append(wheel_of(turn, wheel_with(turn, chance.randrange(0, turn + 1))[1]))
            sizes.append(plain_size(pair[0], pair[1]))
            if sizes[-1] > 300:
                self.check_refused(TooMuch, wheel_joined, pair[0], pair[1], chance.choice(WAYS))
            else:
                self.check_joined(pair[0], pair[1], chance.choice(WAYS))
        self.assertIn(len([size for size in sizes if size > 300]), range(50, 350))

    def test_a_turn_of_one_counts_as_one(self):
        for turn in (2, 300, 301, LARGE):
            self.check_same(wheel_joined((turn, [(0, 1, 1)]), (1, [(0, 1, 5)]), first),
                            (turn, [(0, 1, 1), (1, turn, 5)]))
            self.check_same(wheel_joined((1, []), (turn, [(0, 1, 1)]), first), (turn, [(0, 1, 1)]))

    def test_five_hundred_figures(self):
        third = LARGE // 3
        one, other = (third, [(0, 1, 1)]), (LARGE, [(third, third + 2, 2)])
        asked = (LARGE, [(0, 1, 1), (third, third + 1, 1), (third + 1, third + 2, 2), (2 * third, 2 * third + 1, 1)])
        self.check_same(wheel_joined(one, other, first), asked)
        self.check_refused(TooMuch, wheel_joined, (LARGE, [(0, 1, 1)]), (LARGE - 1, [(0, 1, 1)]), first)
        self.check_refused(TooMuch, wheel_joined, (LARGE, [(0, 1, 1)]), (2, [(0, 1, 1)]), first)

    def test_what_is_given_stays(self):
        other = (5, [(1, 2, 3)])
        for way in WAYS:
            self.check_wheel_kept(wheel_joined, (10, list(SEAM[1])), other, way)
            self.check_wheel_kept(lambda wheel, one: wheel_joined(one, wheel, way), (10, list(SEAM[1])), other)
        self.assertEqual(other, (5, [(1, 2, 3)]))


class TestWheelCut(WheelTest):

    def test_within_one_turn(self):
        self.check_same(wheel_cut(SEAM, (0, 10)), SEAM[1])
        self.check_same(wheel_cut(SEAM, (2, 9)), [(2, 3, 1), (5, 6, 2), (8, 9, 1)])
        self.check_same(wheel_cut(SEAM, (3, 5)), [])
        self.check_same(wheel_cut(SEAM, (5, 6)), [(5, 6, 2)])
        self.check_same(wheel_cut(SEAM, (43, 47)), [(45, 46, 2)])

    def test_over_the_seam(self):
        self.check_same(wheel_cut(SEAM, (7, 14)), [(8, 13, 1)])
        self.check_same(wheel_cut(SEAM, (9, 11)), [(9, 11, 1)])
        self.check_same(wheel_cut(SEAM, (-1, 1)), [(-1, 1, 1)])
        self.check_same(wheel_cut((4, [(0, 2, 1), (2, 4, 2)]), (1, 7)), [(1, 2, 1), (2, 4, 2), (4, 6, 1), (6, 7, 2)])

    def test_over_many_turns_and_below_nought(self):
        self.check_same(wheel_cut((5, [(1, 2, 3)]), (-12, 13)), [(5 * k + 1, 5 * k + 2, 3) for k in range(-2, 3)])
        self.check_same(wheel_cut(SEAM, (-12, -2)), [(-12, -7, 1), (-5, -4, 2)])

    def test_a_turn_of_one(self):
        for span in ((0, 1), (-5, 7), (-LARGE, LARGE), (0, 301)):
            self.check_same(wheel_cut((1, []), span), [])
            self.check_same(wheel_cut((1, [(0, 1, 5)]), span), [(span[0], span[1], 5)])

    def test_all_small_wheels(self):
        for wheel in small_wheels(4):
            for low, behind in itertools.combinations(range(-7, 8), 2):
                asked = plain_map(
                    lambda place: turn_at(wheel, place) if lies_in((low, behind), place) else None, -8, 8)
                self.check_same(wheel_cut(wheel, (low, behind)), asked)

    def test_too_much(self):
        for wheel, turns in ((wheel_with(5, 2), 100), ((4, [(1, 2, 1)]), 150), (wheel_with(400, 299), 1),
                             (wheel_with(200, 149), 2), (wheel_with(60, 59), 5)):
            turn = wheel[0]
            self.assertEqual(turns * (len(wheel[1]) + 1), 300)
            for begin in (0, -3 * turn, -10 ** 300 * turn, 10 ** 300 * turn):
                end = begin + turns * turn
                asked = [(begin + k * turn + low, begin + k * turn + behind, value)
                         for k in range(turns) for low, behind, value in wheel[1]]
                self.check_same(wheel_cut(wheel, (begin, end)), asked)
                if turns > 1:
                    narrow = (begin + turn - 1, end - turn + 1)
                    self.check_same(wheel_cut(wheel, narrow), [piece for piece in asked if lies_in(narrow, piece[0])])
                for span in ((begin - 1, end), (begin, end + 1), (begin - 1, end - turn + 1),
                             (begin + turn - 1, end + 1), (begin, end + 5 * turn), (-LARGE, end)):
                    self.check_refused(TooMuch, wheel_cut, wheel, span)

    def test_three_hundred_and_one(self):
        wheel = wheel_with(9, 6)
        self.check_refused(TooMuch, wheel_cut, wheel, (0, 9 * 43))
        self.check_refused(TooMuch, wheel_cut, wheel, (8, 9 * 42 + 1))
        self.assertEqual(len(wheel_cut(wheel, (0, 9 * 42))), 6 * 42)
        self.assertEqual(len(wheel_cut(wheel, (8, 9 * 41 + 1))), 6 * 40 + 1)
        self.check_refused(TooMuch, wheel_cut, wheel_with(400, 300), (5, 6))

    def test_without_an_end(self):
        for wheel in (SEAM, (1, []), (1, [(0, 1, 5)]), wheel_with(400, 300), (LARGE, [(0, 1, 1)])):
            for span in ((None, 5), (5, None), (None, None), (-LARGE, None), (None, LARGE)):
                self.check_refused(NoEnd, wheel_cut, wheel, span)

    def test_five_hundred_figures(self):
        wheel = (LARGE, [(0, 1, LARGE), (LARGE - 1, LARGE, 1)])
        self.check_same(wheel_cut(wheel, (-LARGE, LARGE)), [
            (-LARGE, -LARGE + 1, LARGE), (-1, 0, 1), (0, 1, LARGE), (LARGE - 1, LARGE, 1)])
        self.check_same(wheel_cut(wheel, (1, LARGE - 1)), [])
        self.check_same(wheel_cut((5, [(1, 2, 3)]), (10 ** 499, 10 ** 499 + 5)), [(10 ** 499 + 1, 10 ** 499 + 2, 3)])
        self.check_refused(TooMuch, wheel_cut, (5, [(1, 2, 3)]), (-LARGE, LARGE))

    def test_what_is_given_stays(self):
        for span in ((0, 10), (-4, 25)):
            self.check_wheel_kept(wheel_cut, (10, list(SEAM[1])), span)
            self.check_wheel_kept(wheel_cut, (1, [(0, 1, 5)]), span)
            self.check_wheel_kept(wheel_cut, (1, []), span)


class TestWheelRun(WheelTest):

    def test_everywhere_and_nowhere(self):
        for wheel in (SEAM, (1, []), (1, [(0, 1, 5)]), (LARGE, [(0, 1, 1)]), (1500, many_pieces(300))):
            for start in (0, 5, -7, LARGE, -LARGE):
                for many in (1, 2, 10, 40, LARGE):
                    self.check_same(wheel_run(wheel, start, many, lambda value: True), start)
                    self.check_same(wheel_run(wheel, start, many, lambda value: False), None)

    def test_over_the_seam(self):
        for start, place in ((0, 8), (1, 8), (8, 8), (9, 18), (-1, 8), (-2, -2), (-3, -2), (10, 18), (105, 108)):
            self.check_same(wheel_run(SEAM, start, 5, lambda value: value == 1), place)
            self.check_same(wheel_run(SEAM, start, 6, lambda value: value == 1), None)

    def test_of_a_stretchs_length(self):
        for start in range(-12, 13):
            for many, lows in ((1, (5, 15, -5, -15)), (2, ())):
                asked = sorted([low for low in lows if low >= start])
                self.check_same(wheel_run(SEAM, start, many, lambda value: value == 2), asked[0] if asked else None)

    def test_of_nothing(self):
        self.check_same(wheel_run(SEAM, 0, 2, lambda value: value is None), 3)
        self.check_same(wheel_run(SEAM, 4, 2, lambda value: value is None), 6)
        self.check_same(wheel_run(SEAM, 7, 2, lambda value: value is None), 13)
        self.check_same(wheel_run(SEAM, 7, 3, lambda value: value is None), None)

    def test_unlike_values_that_hold_together(self):
        wheel = (8, [(0, 2, 1), (2, 3, 2), (6, 8, 3)])
        self.check_same(wheel_run(wheel, 0, 5, lambda value: value is not None), 6)
        self.check_same(wheel_run(wheel, 7, 5, lambda value: value is not None), 14)
        self.check_same(wheel_run(wheel, 7, 4, lambda value: value is not None), 7)
        self.check_same(wheel_run(wheel, 7, 6, lambda value: value is not None), None)
        self.check_same(wheel_run(wheel, 1, 7, lambda value: value != 2), 3)
        self.check_same(wheel_run(wheel, 4, 7, lambda value: value != 2), 11)
        self.check_same(wheel_run(wheel, 4, 8, lambda value: value != 2), None)

    def test_all_small_wheels(self):
        tests = [lambda value, held=held: value in held
                 for many in range(4) for held in itertools.combinations((None, 1, 2), many)]
        for wheel in small_wheels(4):
            turn = wheel[0]
            for test in tests:
                holds = [test(turn_at(wheel, place)) for place in range(turn)]
                for start, many in itertools.product(range(-5, 6), (1, 2, 3, 4, 5, 9, LARGE)):
                    asked = [place for place in range(start, start + turn)
                             if all([holds[(place + far) % turn] for far in range(min(many, turn))])]
                    self.check_same(wheel_run(wheel, start, many, test), asked[0] if asked else None)

    def test_three_hundred_pieces(self):
        wheel = (1500, [(5 * k, 5 * k + 3, k) for k in range(300)])
        for start, place in ((0, 3), (4, 8), (1499, 1503), (-1, 3), (-2, -2), (15 * 10 ** 90 + 4, 15 * 10 ** 90 + 8)):
            self.check_same(wheel_run(wheel, start, 2, lambda value: value is None), place)
        self.check_same(wheel_run(wheel, 7, 3, lambda value: value == 1), 1505)
        self.check_same(wheel_run(wheel, 6, 1497, lambda value: value != 1), 8)
        self.check_same(wheel_run(wheel, 9, 1497, lambda value: value != 1), 1508)
        self.check_same(wheel_run(wheel, 9, 1498, lambda value: value != 1), None)

    def test_five_hundred_figures(self):
        wheel = (LARGE, [(0, 1, 1), (LARGE - 1, LARGE, 1)])
        self.check_same(wheel_run(wheel, 0, 2, lambda value: value == 1), LARGE - 1)
        self.check_same(wheel_run(wheel, 0, 3, lambda value: value == 1), None)
        self.check_same(wheel_run(wheel, -LARGE, LARGE - 2, lambda value: value is None), -LARGE + 1)
        self.check_same(wheel_run(wheel, -LARGE, LARGE - 1, lambda value: value is None), None)
        far = 7 * 10 ** 490 + 1
        self.check_same(wheel_run((7, [(0, 1, 1)]), far, 6, lambda value: value is None), far)

    def test_many_below_one(self):
        for wheel in (SEAM, (1, []), (1, [(0, 1, 5)])):
            for many in (0, -1, -LARGE):
                for test in (lambda value: True, lambda value: False, lambda value: value == 1):
                    self.check_refused(NoCount, wheel_run, wheel, 0, many, test)

    def test_what_is_given_stays(self):
        wheel = (10, list(SEAM[1]))
        for turn in range(2):
            self.check_same(wheel_run(wheel, 0, 5, lambda value: value == 1), 8)
        self.assertEqual(wheel, SEAM)


if __name__ == "__main__":
    unittest.main()
