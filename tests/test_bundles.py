import itertools
import random
import unittest

from helper import LARGE, NO_NAMES, SpanTest, lies_in, plain_map, spans_within
from spanmap import bundles
from spanmap.bundles import Bundle
from spanmap.errors import NoCount, NoName

# Sixty names, handed in from the last one to the first.
SIXTY = [one + other for one in "zyxwvu" for other in "jihgfedcba"]


def state_of(bundle, names):
    return (bundle.sets(), [bundle.only(name) for name in names])


class PlainBundle:
    """Each name by itself: the deeds done to it, gone through from the last one on at each place."""

    def __init__(self, names):
        self.deeds = {name: [] for name in names}

    def do(self, name, span, lies):
        self.deeds[name].insert(0, (span, lies))

    def lies(self, name, place):
        return ([lies for span, lies in self.deeds[name] if lies_in(span, place)] + [False])[0]

    def names_at(self, place):
        return sorted([name for name in self.deeds if self.lies(name, place)])

    def sum_at(self, place):
        numbers = [2 ** k for k, name in enumerate(sorted(self.deeds)) if self.lies(name, place)]
        return sum(numbers) or None


class BundleTest(SpanTest):

    def check_all(self, bundle, plain, first, last):
        for place in range(first - 3, last + 4):
            self.check_same(bundle.names_at(place), plain.names_at(place))
        for name in plain.deeds:
            told = plain_map(lambda place: 1 if plain.lies(name, place) else None, first - 1, last + 1)
            self.check_same(bundle.only(name), told)
        self.check_same(bundle.sets(), plain_map(plain.sum_at, first - 1, last + 1))
        for many in range(1, len(plain.deeds) + 1):
            crowd = plain_map(lambda place: 1 if len(plain.names_at(place)) >= many else None, first - 1, last + 1)
            self.check_same(bundle.crowd(many), [(low, behind) for low, behind, value in crowd])


class TestNames(BundleTest):

    def test_it_belongs_to_the_bundles_module(self):
        self.check_belongs(bundles, ["Bundle"])

    def test_at_first_no_name_lies_anywhere(self):
        for names in (["a"], ["b", "a"], SIXTY):
            bundle = Bundle(names)
            self.check_all(bundle, PlainBundle(names), 0, 0)
            self.check_same(bundle.sets(), [])
            self.check_same(bundle.names_at(LARGE), [])

    def test_one_and_sixty_names(self):
        for names in (["abcdefgh"], ["z"], SIXTY):
            bundle = Bundle(names)
            for name in names:
                bundle.lay(name, (0, 1))
            self.check_same(bundle.names_at(0), sorted(names))

    def test_none_and_sixty_one(self):
        self.check_refused(NoName, Bundle, [])
        self.check_refused(NoName, Bundle, SIXTY + ["a"])
        self.check_refused(NoName, Bundle, SIXTY * 2)

    def test_one_twice(self):
        self.check_refused(NoName, Bundle, ["a", "a"])
        self.check_refused(NoName, Bundle, ["b", "a", "b"])
        self.check_refused(NoName, Bundle, SIXTY[1:] + [SIXTY[7]])

    def test_things_that_are_no_names(self):
        for thing in NO_NAMES:
            self.check_refused(NoName, Bundle, [thing])
            self.check_refused(NoName, Bundle, ["a", thing])
            self.check_refused(NoName, Bundle, [thing, "a", "b"])

    def test_the_list_handed_in_is_not_held_on_to(self):
        given = ["b", "a"]
        bundle = Bundle(given)
        self.assertEqual(given, ["b", "a"])
        given.append("c")
        given[0] = "d"
        self.check_refused(NoName, bundle.only, "c")
        self.check_refused(NoName, bundle.only, "d")
        self.check_refused(NoCount, bundle.crowd, 3)
        bundle.lay("b", (0, 1))
        self.check_same(bundle.sets(), [(0, 1, 2)])
        self.assertEqual(given, ["d", "a", "c"])

    def test_each_bundle_keeps_its_own(self):
        names = ["a", "b"]
        one, other = Bundle(names), Bundle(names)
        one.lay("a", (0, 3))
        self.check_same(other.sets(), [])
        self.check_same(Bundle(names).only("a"), [])


class TestLying(BundleTest):

    def test_laid_lifted_and_laid_again(self):
        bundle = Bundle(["a"])
        for deed, span, told in (
                (bundle.lay, (0, 9), [(0, 9, 1)]),
                (bundle.lay, (2, 4), [(0, 9, 1)]),
                (bundle.lift, (3, 5), [(0, 3, 1), (5, 9, 1)]),
                (bundle.lift, (20, 30), [(0, 3, 1), (5, 9, 1)]),
                (bundle.lay, (3, 4), [(0, 4, 1), (5, 9, 1)]),
                (bundle.lay, (9, 12), [(0, 4, 1), (5, 12, 1)]),
                (bundle.lift, (None, 2), [(2, 4, 1), (5, 12, 1)]),
                (bundle.lay, (8, None), [(2, 4, 1), (5, None, 1)]),
                (bundle.lay, (None, None), [(None, None, 1)]),
                (bundle.lift, (0, 1), [(None, 0, 1), (1, None, 1)]),
                (bundle.lift, (None, None), []),
                (bundle.lift, (None, None), []),
                (bundle.lay, (None, 0), [(None, 0, 1)])):
            self.assertIsNone(deed("a", span))
            self.check_same(bundle.only("a"), told)
            self.check_same(bundle.sets(), told)
            self.check_same(bundle.crowd(1), [(low, behind) for low, behind, value in told])

    def test_names_at_beside_and_far_from_each_end(self):
        bundle = Bundle(["c", "a", "b"])
        bundle.lay("a", (0, 5))
        bundle.lay("b", (None, 3))
        bundle.lay("c", (4, None))
        for place, names in ((-LARGE, ["b"]), (-1, ["b"]), (0, ["a", "b"]), (2, ["a", "b"]), (3, ["a"]),
                             (4, ["a", "c"]), (5, ["c"]), (6, ["c"]), (LARGE, ["c"])):
            self.check_same(bundle.names_at(place), names)

    def test_names_rise_whatever_the_order_of_the_names_handed_in(self):
        rising = ["a", "aa", "ab", "abc", "abcdefgh", "b", "ba", "z"]
        orders = [rising, rising[::-1], rising[3:] + rising[:3], sorted(rising, key=len, reverse=True)]
        for order in orders:
            bundle = Bundle(order)
            for name in order[::2] + order[1::2]:
                bundle.lay(name, (0, 1))
            self.check_same(bundle.names_at(0), rising)
            bundle.lift("b", (None, None))
            self.check_same(bundle.names_at(0), rising[:5] + rising[6:])
            self.check_same(bundle.sets(), [(0, 1, 255 - 32)])

    def test_the_map_of_sets(self):
        bundle = Bundle(["b", "c", "a"])
        bundle.lay("b", (0, 4))
        bundle.lay("a", (2, 6))
        bundle.lay("c", (6, 8))
        self.check_same(bundle.sets(), [(0, 2, 2), (2, 4, 3), (4, 6, 1), (6, 8, 4)])
        bundle.lay("c", (None, None))
        self.check_same(bundle.sets(), [(None, 0, 4), (0, 2, 6), (2, 4, 7), (4, 6, 5), (6, None, 4)])

    def test_sixty_names_together(self):
        bundle = Bundle(SIXTY)
        rising = sorted(SIXTY)
        for number, name in enumerate(rising):
            bundle.lay(name, (number, 60))
        asked = [(number, number + 1, 2 ** (number + 1) - 1) for number in range(60)]
        self.check_same(bundle.sets(), asked)
        for many in range(1, 61):
            self.check_same(bundle.crowd(many), [(many - 1, 60)])
        for number, name in enumerate(rising):
            self.check_same(bundle.only(name), [(number, 60, 1)])
        self.check_same(bundle.names_at(59), rising)
        self.check_same(bundle.names_at(58), rising[:59])

    def test_the_crowd(self):
        bundle = Bundle(["a", "b", "c"])
        bundle.lay("a", (0, 10))
        bundle.lay("b", (2, 5))
        bundle.lay("b", (7, 12))
        bundle.lay("c", (5, 7))
        bundle.lay("c", (8, None))
        self.check_same(bundle.crowd(1), [(0, None)])
        self.check_same(bundle.crowd(2), [(2, 12)])
        self.check_same(bundle.crowd(3), [(8, 10)])
        bundle.lift("a", (None, None))
        self.check_same(bundle.crowd(3), [])
        self.check_same(bundle.crowd(2), [(8, 12)])
        bundle.lay("a", (None, 1))
        self.check_same(bundle.crowd(1), [(None, 1), (2, None)])

    def test_each_two_deeds_of_two_names(self):
        deeds = list(itertools.product(("a", "b"), spans_within(0, 2), (True, False)))
        for one, other in itertools.product(deeds, repeat=2):
            bundle, plain = Bundle(["b", "a"]), PlainBundle(["a", "b"])
            bundle.lay("a", (None, 1))
            plain.do("a", (None, 1), True)
            for name, span, lies in (one, other):
                (bundle.lay if lies else bundle.lift)(name, span)
                plain.do(name, span, lies)
            self.check_all(bundle, plain, 0, 2)

    def test_many_deeds_of_several_names(self):
        chance = random.Random(7)
        spans = spans_within(0, 12)
        for names in (["one"], ["b", "ab", "a"], ["e", "d", "c", "b", "a"]):
            bundle, plain = Bundle(names), PlainBundle(names)
            for number in range(60):
                name, span, lies = chance.choice(names), chance.choice(spans), chance.random() < 0.6
                (bundle.lay if lies else bundle.lift)(name, span)
                plain.do(name, span, lies)
                if number % 4 == 0:
                    self.check_all(bundle, plain, 0, 12)

    def test_three_hundred_pieces(self):
        bundle = Bundle(["a", "b"])
        for number in range(150):
            bundle.lay("a", (4 * number, 4 * number + 2))
            bundle.lay("b", (4 * number + 1, 4 * number + 2))
        asked = []
        for number in range(150):
            asked.extend([(4 * number, 4 * number + 1, 1), (4 * number + 1, 4 * number + 2, 3)])
        self.check_same(bundle.sets(), asked)
        self.check_same(bundle.crowd(2), [(4 * number + 1, 4 * number + 2) for number in range(150)])
        self.check_same(bundle.crowd(1), [(4 * number, 4 * number + 2) for number in range(150)])

    def test_five_hundred_figures(self):
        bundle = Bundle(["a", "b"])
        bundle.lay("a", (-LARGE, LARGE))
        bundle.lay("b", (0, LARGE - 1))
        bundle.lift("a", (5, LARGE - 2))
        self.check_same(bundle.only("a"), [(-LARGE, 5, 1), (LARGE - 2, LARGE, 1)])
        self.check_same(bundle.sets(), [(-LARGE, 0, 1), (0, 5, 3), (5, LARGE - 2, 2), (LARGE - 2, LARGE - 1, 3),
                                        (LARGE - 1, LARGE, 1)])
        self.check_same(bundle.crowd(2), [(0, 5), (LARGE - 2, LARGE - 1)])
        self.check_same(bundle.names_at(LARGE - 1), ["a"])


class TestRefused(BundleTest):

    def test_a_name_that_is_none_of_the_bundles(self):
        names = ["ab", "b"]
        bundle = Bundle(names)
        bundle.lay("ab", (0, 5))
        bundle.lay("b", (3, None))
        ahead = state_of(bundle, names)
        for name in ["a", "abc", "c", "ba", "abcdefgh"] + NO_NAMES:
            self.check_refused(NoName, bundle.lay, name, (0, 9))
            self.check_refused(NoName, bundle.lift, name, (0, 9))
            self.check_refused(NoName, bundle.only, name)
            self.assertEqual(state_of(bundle, names), ahead)
            self.check_same(bundle.names_at(4), ["ab", "b"])
            self.check_same(bundle.crowd(2), [(3, 5)])

    def test_a_crowd_of_fewer_than_one_or_more_than_all(self):
        for names in (["a"], ["a", "b", "c"], SIXTY):
            bundle = Bundle(names)
            for name in names[:40]:
                bundle.lay(name, (0, 3))
            ahead = state_of(bundle, names)
            for many in (0, -1, -LARGE, len(names) + 1, len(names) + 2, LARGE):
                self.check_refused(NoCount, bundle.crowd, many)
                self.assertEqual(state_of(bundle, names), ahead)
            self.check_same(bundle.crowd(1), [(0, 3)])
            self.check_same(bundle.crowd(len(names)), [(0, 3)] if len(names) < 41 else [])

    def test_a_told_list_is_for_the_asker_to_keep(self):
        bundle = Bundle(["a", "b"])
        bundle.lay("a", (0, 5))
        bundle.lay("b", (3, None))
        asked = [
            lambda: bundle.names_at(4), lambda: bundle.names_at(-9), lambda: bundle.only("a"), lambda: bundle.only("b"),
            bundle.sets, lambda: bundle.crowd(1), lambda: bundle.crowd(2),
        ]
        ahead = [ask() for ask in asked]
        for ask in asked:
            told = ask()
            told.append((7, 8, 1))
            told.reverse()
            self.assertEqual([again() for again in asked], ahead)
        kept = [ask() for ask in asked]
        bundle.lay("a", (None, None))
        bundle.lift("b", (4, 5))
        self.assertEqual(kept, ahead)


if __name__ == "__main__":
    unittest.main()
