import itertools
import unittest

from helper import LARGE, SpanTest, plain_map
from spanmap import rules
from spanmap.errors import NoRule, TooMuch
from spanmap.rules import laid, stretches

NO_RULES = [
    (3, 3, 0, 1, 5), (4, 3, 0, 1, 5), (LARGE, -LARGE, 0, 1, 5), (3, 3, 9, 2, 5), (4, 3, 9, 2, 5), (4, 3, 0, 2, 5),
    (0, 3, 0, 0, 5), (0, 3, 4, 0, 5), (0, 3, 4, -1, 5), (0, 3, 0, -1, 5), (0, 3, 4, -LARGE, 5),
    (0, 3, 4, 101, 5), (0, 3, 4, 102, 5), (0, 3, 4, LARGE, 5), (0, 3, 0, 101, 5),
    (0, 3, 1, 1, 5), (0, 3, 4, 1, 5), (0, 3, -1, 1, 5), (0, 3, LARGE, 1, 5),
    (0, 3, 3, 2, 5), (0, 3, 2, 2, 5), (0, 3, 1, 2, 5), (0, 3, 0, 2, 5), (0, 3, -4, 2, 5), (0, 3, -LARGE, 2, 5),
    (0, 3, 3, 100, 5), (0, 3, 0, 100, 5), (-LARGE, 0, LARGE, 2, 0), (0, LARGE, LARGE, 2, 0),
]


def is_plain_rule(low, behind, step, times):
    if low >= behind or times not in range(1, 101):
        return False
    return step == 0 if times == 1 else step > behind - low


def plain_laid(rules_laid, first, last):
    told = {}
    for low, behind, step, times, value in rules_laid:
        for number in range(times):
            for place in range(low + number * step, behind + number * step):
                told[place] = value
    return plain_map(told.get, first, last)


class TestStretches(SpanTest):

    def test_the_names_belong_to_the_rules_module(self):
        self.check_belongs(rules, ["stretches", "laid"])

    def test_once(self):
        self.check_same(stretches((3, 5, 0, 1, 7)), [(3, 5)])
        self.check_same(stretches((-5, -4, 0, 1, 0)), [(-5, -4)])
        self.check_same(stretches((-LARGE, LARGE, 0, 1, LARGE)), [(-LARGE, LARGE)])

    def test_in_their_order(self):
        self.check_same(stretches((3, 5, 4, 3, 7)), [(3, 5), (7, 9), (11, 13)])
        self.check_same(stretches((-9, -6, 10, 2, -1)), [(-9, -6), (1, 4)])

    def test_a_hundred_times(self):
        self.check_same(stretches((3, 5, 3, 100, 7)), [(3 + 3 * k, 5 + 3 * k) for k in range(100)])
        self.check_same(stretches((-1, 0, 2, 99, 7)), [(-1 + 2 * k, 2 * k) for k in range(99)])

    def test_steps_one_more_than_the_span_is_long(self):
        self.check_same(stretches((0, 1, 2, 2, 7)), [(0, 1), (2, 3)])
        self.check_same(stretches((0, 9, 10, 2, 7)), [(0, 9), (10, 19)])

    def test_steps_as_large_as_such_numbers_allow(self):
        self.check_same(stretches((-LARGE, -LARGE + 3, LARGE, 2, 7)), [(-LARGE, -LARGE + 3), (0, 3)])
        self.check_same(stretches((-LARGE, -1, LARGE, 2, 7)), [(-LARGE, -1), (0, LARGE - 1)])
        step = LARGE // 99
        told = stretches((0, 1, step, 100, LARGE))
        self.check_same(told, [(step * k, step * k + 1) for k in range(100)])

    def test_what_is_no_rule(self):
        for rule in NO_RULES:
            self.check_refused(NoRule, stretches, rule)

    def test_all_small_tuples(self):
        for low, behind, step, times in itertools.product(range(-2, 3), range(-2, 3), range(-2, 7), range(-1, 5)):
            rule = (low, behind, step, times, 7)
            if is_plain_rule(low, behind, step, times):
                self.check_same(stretches(rule), [(low + k * step, behind + k * step) for k in range(times)])
            else:
                self.check_refused(NoRule, stretches, rule)

    def test_a_told_list_is_for_the_asker_to_keep(self):
        told = stretches((3, 5, 4, 2, 7))
        told.append((0, 1))
        self.check_same(stretches((3, 5, 4, 2, 7)), [(3, 5), (7, 9)])


class TestLaid(SpanTest):

    def test_none(self):
        self.check_same(laid([]), [])

    def test_one_rule(self):
        self.check_same(laid([(3, 5, 0, 1, 7)]), [(3, 5, 7)])
        self.check_same(laid([(3, 5, 4, 3, 0)]), [(3, 5, 0), (7, 9, 0), (11, 13, 0)])

    def test_later_over_earlier(self):
        wide, narrow = (0, 10, 0, 1, 1), (1, 2, 3, 3, 2)
        over = [(0, 1, 1), (1, 2, 2), (2, 4, 1), (4, 5, 2), (5, 7, 1), (7, 8, 2), (8, 10, 1)]
        self.check_same(laid([wide, narrow]), over)
        self.check_same(laid([narrow, wide]), [(0, 10, 1)])

    def test_near_ones_become_one_piece(self):
        self.check_same(laid([(0, 2, 4, 3, 5), (2, 4, 4, 3, 5)]), [(0, 12, 5)])
        self.check_same(laid([(0, 2, 4, 2, 5), (2, 4, 4, 2, 6)]), [(0, 2, 5), (2, 4, 6), (4, 6, 5), (6, 8, 6)])

    def test_small_rules_in_turn(self):
        choices = [(0, 3, 0, 1, 1), (1, 2, 3, 3, 2), (-2, 1, 4, 2, 1), (0, 1, 2, 4, 3), (2, 8, 0, 1, 2)]
        for many in range(1, 4):
            for given in itertools.product(choices, repeat=many):
                self.check_same(laid(list(given)), plain_laid(given, -5, 15))

    def test_too_much(self):
        hundred, once = (0, 1, 2, 100, 5), (9, 11, 0, 1, 5)
        for given in ([hundred] * 3 + [once], [once] + [hundred] * 3, [hundred] * 4, [once] * 301,
                      [(0, 1, 2, 99, 5)] * 3 + [once] * 4):
            self.check_refused(TooMuch, laid, given)

    def test_three_hundred_is_not_too_much(self):
        far = [(600 * k, 600 * k + 1, 3, 100, k) for k in range(3)]
        self.check_same(laid(far), [(600 * k + 3 * n, 600 * k + 3 * n + 1, k) for k in range(3) for n in range(100)])
        self.check_same(laid([(0, 1, 2, 100, 5)] * 3), [(2 * n, 2 * n + 1, 5) for n in range(100)])
        self.check_same(laid([(0, 1, 0, 1, 5)] * 300), [(0, 1, 5)])

    def test_no_rule(self):
        good = (0, 3, 4, 2, 1)
        for rule in NO_RULES:
            for given in ([rule], [good, rule], [rule, good], [good, rule, good]):
                self.check_refused(NoRule, laid, given)

    def test_no_rule_goes_ahead_of_too_much(self):
        hundred = (0, 1, 2, 100, 5)
        for rule in NO_RULES:
            for given in ([hundred] * 4 + [rule], [rule] + [hundred] * 4, [hundred] * 2 + [rule] + [hundred] * 2,
                          [hundred] * 3 + [rule]):
                self.check_refused(NoRule, laid, given)

    def test_what_is_given_stays(self):
        for given in ([], [(0, 3, 4, 2, 1), (1, 9, 0, 1, 2)]):
            self.check_kept(laid, given)

    def test_five_hundred_figures(self):
        self.check_same(laid([(-LARGE, LARGE, 0, 1, LARGE), (-LARGE, -LARGE + 3, LARGE, 2, -LARGE)]),
                        [(-LARGE, -LARGE + 3, -LARGE), (-LARGE + 3, 0, LARGE), (0, 3, -LARGE), (3, LARGE, LARGE)])


if __name__ == "__main__":
    unittest.main()
