import itertools
import unittest

from helper import LARGE, SpanTest, many_pieces, plain_map, plain_wheel, small_wheels, told_at
from spanmap import wheels
from spanmap.errors import NoCount
from spanmap.wheels import wheel_at, wheel_of, wheel_parting

PRIMES = (2, 3, 5, 7, 101, 10 ** 9 + 7, 2 ** 127 - 1)


class TestWheelOf(SpanTest):

    def test_the_names_belong_to_the_wheels_module(self):
        self.check_belongs(wheels, ["wheel_of", "wheel_at", "wheel_parting"])

    def test_a_turn_of_one(self):
        self.check_same(wheel_of(1, []), (1, []))
        self.check_same(wheel_of(1, [(0, 1, 5)]), (1, [(0, 1, 5)]))
        self.check_same(wheel_of(1, [(-3, 8, 5)]), (1, [(0, 1, 5)]))
        self.check_same(wheel_of(1, [(1, 2, 5)]), (1, []))
        self.check_same(wheel_of(1, [(None, 0, 5), (1, None, 5)]), (1, []))

    def test_nothing_and_one_value_everywhere(self):
        for turn in (1, 2, 6, 7, 720720, LARGE, *PRIMES):
            self.check_same(wheel_of(turn, []), (1, []))
            self.check_same(wheel_of(turn, [(turn, None, 5)]), (1, []))
            self.check_same(wheel_of(turn, [(None, 0, 5)]), (1, []))
            for pieces in ([(None, None, 0)], [(0, turn, 0)], [(-5, turn + 5, 0)], [(0, None, 0)], [(None, turn, 0)],
                           [(None, 0, 1), (0, turn, 0), (turn, None, 1)]):
                self.check_same(wheel_of(turn, pieces), (1, [(0, 1, 0)]))

    def test_what_lies_beyond_is_left_out(self):
        self.check_same(wheel_of(10, [(-4, 3, 1), (8, 14, 2)]), (10, [(0, 3, 1), (8, 10, 2)]))
        self.check_same(wheel_of(10, [(None, 3, 1), (8, None, 2)]), (10, [(0, 3, 1), (8, 10, 2)]))
        self.check_same(wheel_of(10, [(-9, -2, 1), (4, 5, 1), (10, 12, 3)]), (10, [(4, 5, 1)]))
        self.check_same(wheel_of(10, [(-9, 0, 1), (9, 10, 1), (11, 12, 3)]), (10, [(9, 10, 1)]))

    def test_primes(self):
        for turn in PRIMES:
            for pieces in ([(0, 1, 1)], [(turn - 1, turn, 1)], [(0, turn - 1, 1)]):
                self.check_same(wheel_of(turn, pieces), (turn, pieces))
        self.check_same(wheel_of(101, [(2 * k, 2 * k + 1, 1) for k in range(50)]),
                        (101, [(2 * k, 2 * k + 1, 1) for k in range(50)]))

    def test_it_comes_again_on_a_turn(self):
        for times in (2, 3, 4, 6, 12, 60):
            for far in (7, 12, LARGE // 60):
                pieces = [(k * far + 2, k * far + 5, 1) for k in range(times)]
                self.check_same(wheel_of(times * far, pieces), (far, [(2, 5, 1)]))
                pieces = [(k * far, k * far + 1, 1) for k in range(times)]
                self.check_same(wheel_of(times * far, pieces), (far, [(0, 1, 1)]))

    def test_it_comes_again_over_the_seam(self):
        self.check_same(wheel_of(12, [(0, 1, 1), (4, 7, 1), (10, 12, 1)]), (6, [(0, 1, 1), (4, 6, 1)]))
        self.check_same(wheel_of(12, [(0, 1, 1), (3, 5, 1), (7, 9, 1), (11, 12, 1)]), (4, [(0, 1, 1), (3, 4, 1)]))
        self.check_same(wheel_of(12, [(0, 1, 1), (2, 3, 2), (3, 7, 1), (8, 9, 2), (9, 12, 1)]),
                        (6, [(0, 1, 1), (2, 3, 2), (3, 6, 1)]))
        for times in (2, 3, 6):
            inner = [(k * 10 - 3, k * 10 + 2, 1) for k in range(1, times)]
            pieces = [(0, 2, 1)] + inner + [(times * 10 - 3, times * 10, 1)]
            self.check_same(wheel_of(times * 10, pieces), (10, [(0, 2, 1), (7, 10, 1)]))

    def test_pieces_near_one_another_at_the_seam(self):
        self.check_same(wheel_of(4, [(0, 2, 1), (2, 4, 2)]), (4, [(0, 2, 1), (2, 4, 2)]))
        self.check_same(wheel_of(8, [(0, 2, 1), (2, 4, 2), (4, 6, 1), (6, 8, 2)]), (4, [(0, 2, 1), (2, 4, 2)]))
        self.check_same(wheel_of(6, [(k, k + 1, k % 2) for k in range(6)]), (2, [(0, 1, 0), (1, 2, 1)]))
        self.check_same(wheel_of(6, [(k, k + 1, k % 3) for k in range(6)]), (3, [(0, 1, 0), (1, 2, 1), (2, 3, 2)]))

    def test_one_piece_alone_breaks_it(self):
        even = [(k * 10 + 2, k * 10 + 5, 1) for k in range(6)]
        self.check_same(wheel_of(60, even), (10, even[:1]))
        for number in range(6):
            low = number * 10 + 2
            for other in ([(low, low + 3, 2)], [(low, low + 4, 1)], [(low, low + 2, 1)], [(low + 1, low + 3, 1)],
                          [(low - 1, low + 3, 1)], [(low + 1, low + 4, 1)], [],
                          [(low, low + 3, 1), (low + 4, low + 5, 1)]):
                pieces = even[:number] + other + even[number + 1:]
                self.check_same(wheel_of(60, pieces), (60, pieces))

    def test_two_pieces_leave_another_turn(self):
        even = [(k * 10 + 2, k * 10 + 5, 1) for k in range(6)]
        for number in range(3):
            pieces = list(even)
            for other in (number, number + 3):
                pieces[other] = (other * 10 + 2, other * 10 + 5, 2)
            self.check_same(wheel_of(60, pieces), (30, pieces[:3]))
        self.check_same(wheel_of(60, [(low, behind, number % 2) for number, (low, behind, value) in enumerate(even)]),
                        (20, [(2, 5, 0), (12, 15, 1)]))

    def test_alike_in_number_but_not_evenly_apart(self):
        self.check_same(wheel_of(12, [(0, 1, 1), (5, 6, 1)]), (12, [(0, 1, 1), (5, 6, 1)]))
        self.check_same(wheel_of(13, [(0, 1, 1), (6, 7, 1)]), (13, [(0, 1, 1), (6, 7, 1)]))
        self.check_same(wheel_of(12, [(0, 1, 1), (6, 8, 1)]), (12, [(0, 1, 1), (6, 8, 1)]))

    def test_all_small_turns(self):
        for turn in range(1, 8):
            for told in itertools.product((None, 0, 1), repeat=turn):
                pieces = plain_map(lambda place: told[place] if 0 <= place < turn else None, -1, turn)
                self.check_same(wheel_of(turn, pieces), plain_wheel(told))

    def test_small_turns_with_many_divisors(self):
        for turn in (8, 10, 12):
            for told in itertools.product((None, 1), repeat=turn):
                pieces = plain_map(lambda place: told[min(max(place, 0), turn - 1)], -1, turn)
                self.check_same(wheel_of(turn, pieces), plain_wheel(told))

    def test_three_hundred_pieces(self):
        pieces = [(5 * k, 5 * k + 3, 1) for k in range(300)]
        self.check_same(wheel_of(1500, pieces), (5, [(0, 3, 1)]))
        self.check_same(wheel_of(1501, pieces), (1501, pieces))
        self.check_same(wheel_of(1500, pieces[:-1]), (1500, pieces[:-1]))
        pieces = many_pieces(294)
        self.check_same(wheel_of(1470, pieces), (35, pieces[:7]))
        self.check_same(wheel_of(1475, pieces), (1475, pieces))

    def test_five_hundred_figures(self):
        ninth = LARGE // 9
        self.check_same(wheel_of(LARGE, [(1, 2, LARGE)]), (LARGE, [(1, 2, LARGE)]))
        pieces = [(k * ninth, k * ninth + 1, -LARGE) for k in range(9)]
        self.check_same(wheel_of(9 * ninth, pieces), (ninth, [(0, 1, -LARGE)]))
        pieces = [(k * ninth, k * ninth + 1, 1) for k in range(8)] + [(8 * ninth, 8 * ninth + 1, 2)]
        self.check_same(wheel_of(9 * ninth, pieces), (9 * ninth, pieces))
        self.check_same(wheel_of(LARGE, [(-LARGE, LARGE, 3)]), (1, [(0, 1, 3)]))

    def test_a_turn_below_one(self):
        for turn in (0, -1, -5, -LARGE):
            for pieces in ([], [(0, 1, 1)], [(None, None, 1)]):
                self.check_refused(NoCount, wheel_of, turn, pieces)

    def test_what_is_given_stays(self):
        for pieces in ([], [(0, 1, 1)], [(0, 1, 1), (3, 4, 1)], [(None, None, 2)]):
            given = list(pieces)
            told = wheel_of(6, given)
            self.assertEqual(given, pieces)
            kept = (told[0], list(told[1]))
            self.assertIsNot(told[1], given)
            told[1].append((4, 5, 9))
            self.assertEqual(given, pieces)
            self.check_same(wheel_of(6, given), kept)


class TestWheelAt(SpanTest):

    def test_at_beside_and_far_from_nought(self):
        wheel = (10, [(0, 3, 1), (8, 10, 2)])
        for place, value in ((0, 1), (2, 1), (3, None), (7, None), (8, 2), (9, 2), (10, 1), (12, 1), (13, None),
                             (-1, 2), (-2, 2), (-3, None), (-7, None), (-8, 1), (-10, 1), (-11, 2)):
            self.check_same(wheel_at(wheel, place), value)
            self.check_same(wheel_at(wheel, place + 10 ** 400), value)
            self.check_same(wheel_at(wheel, place - 10 ** 400), value)

    def test_turn_one(self):
        for place in (0, 1, -1, LARGE, -LARGE):
            self.check_same(wheel_at((1, []), place), None)
            self.check_same(wheel_at((1, [(0, 1, 0)]), place), 0)

    def test_all_small_wheels(self):
        for turn, pieces in small_wheels(4):
            for place in range(-2 * turn - 1, 3 * turn + 1):
                self.check_same(wheel_at((turn, pieces), place), told_at(pieces, place % turn))

    def test_five_hundred_figures(self):
        wheel = (LARGE, [(0, 1, 1), (LARGE - 1, LARGE, LARGE)])
        for place, value in ((0, 1), (LARGE, 1), (-LARGE, 1), (-1, LARGE), (LARGE - 1, LARGE), (LARGE - 2, None)):
            self.check_same(wheel_at(wheel, place), value)


class TestWheelParting(SpanTest):

    def check_parting(self, one, other, place):
        self.check_same(wheel_parting(one, other), place)
        self.check_same(wheel_parting(other, one), place)

    def test_equal_wheels(self):
        for wheel in small_wheels(4) + [(LARGE, [(0, 1, 1)]), (1500, many_pieces(300))]:
            self.assertIsNone(wheel_parting(wheel, (wheel[0], list(wheel[1]))))

    def test_unlike_at_nought(self):
        self.check_parting((1, []), (1, [(0, 1, 1)]), 0)
        self.check_parting((1, [(0, 1, 2)]), (1, [(0, 1, 1)]), 0)
        self.check_parting((LARGE, [(0, 1, 1)]), (LARGE, [(1, 2, 1)]), 0)

    def test_one_that_never_changes(self):
        self.check_parting((1, []), (LARGE, [(LARGE - 1, LARGE, 1)]), LARGE - 1)
        self.check_parting((1, [(0, 1, 1)]), (LARGE, [(0, 7, 1)]), 7)
        self.check_parting((1, [(0, 1, 1)]), (LARGE, [(0, LARGE - 1, 1)]), LARGE - 1)
        self.check_parting((1, [(0, 1, 1)]), (LARGE, [(0, LARGE - 1, 1), (LARGE - 1, LARGE, 2)]), LARGE - 1)

    def test_all_small_wheels(self):
        all_wheels = small_wheels(4) + small_wheels(6, (None, 1)) + small_wheels(5, (1, 2))
        told = [[told_at(pieces, place % turn) for place in range(12)] for turn, pieces in all_wheels]
        for one, other in itertools.product(range(len(all_wheels)), repeat=2):
            places = [place for place in range(12) if told[one][place] != told[other][place]]
            self.check_same(wheel_parting(all_wheels[one], all_wheels[other]), places[0] if places else None)

    def test_turns_that_divide_one_another(self):
        for turn in (5, 12, 10 ** 90):
            one = (turn, [(1, 3, 1)])
            pieces = [(turn * k + 1, turn * k + 3, 1) for k in range(6)]
            self.check_parting(one, (6 * turn, pieces[:5]), 5 * turn + 1)
            self.check_parting(one, (6 * turn, pieces[:5] + [(5 * turn + 1, 5 * turn + 2, 1)]), 5 * turn + 2)
            self.check_parting(one, (6 * turn, pieces[:5] + [(5 * turn + 1, 5 * turn + 4, 1)]), 5 * turn + 3)
            self.check_parting(one, (6 * turn, pieces + [(6 * turn - 1, 6 * turn, 1)]), 6 * turn - 1)
            self.check_parting(one, (6 * turn, pieces[:5] + [(5 * turn + 1, 5 * turn + 3, 2)]), 5 * turn + 1)

    def test_in_the_last_turn_before_both_together(self):
        for turn in (2, 3, 10, 10 ** 90, LARGE // 300):
            for many in (1, 2, 5, 149):
                other_turn = turn * many + 1
                pieces = [(turn * k, turn * k + turn - 1, 1) for k in range(many)] + [(turn * many, other_turn, 1)]
                self.check_parting((turn, [(0, turn - 1, 1)]), (other_turn, pieces), turn + other_turn - 2)

    def test_turns_that_do_not_divide_one_another(self):
        self.check_parting((LARGE, [(0, 1, 1)]), (LARGE - 1, [(0, 1, 1)]), LARGE - 1)
        self.check_parting((10, [(0, 5, 1)]), (15, [(0, 5, 1), (10, 15, 1)]), 15)
        self.check_parting((10, [(0, 5, 1)]), (25, [(0, 5, 1), (10, 15, 1), (20, 25, 1)]), 25)
        self.check_parting((6, [(0, 1, 1)]), (4, [(0, 1, 1)]), 4)

    def test_three_hundred_pieces(self):
        pieces = many_pieces(294)
        one = (35, pieces[:7])
        self.check_parting(one, (1475, pieces), 1470)
        self.check_parting(one, (1470, pieces[:-1]), 1465)
        self.check_parting((1475, pieces), (1470, pieces[:-1]), 1465)
        self.check_parting((1475, pieces), (1476, pieces), 1475)

    def test_what_is_given_stays(self):
        one, other = (5, [(1, 3, 1)]), (10, [(1, 3, 1), (6, 7, 1)])
        for turn in range(2):
            self.check_parting(one, other, 7)
        self.assertEqual((one, other), ((5, [(1, 3, 1)]), (10, [(1, 3, 1), (6, 7, 1)])))


if __name__ == "__main__":
    unittest.main()
