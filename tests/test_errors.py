import unittest

from spanmap import errors
from spanmap.errors import (
    Clash, Empty, NoCount, NoDeed, NoEnd, NoMark, NoName, NoRow, NoRule, NoShare, NoText, SpanError, TooMuch,
)

TWELVE = [Empty, NoEnd, Clash, NoCount, NoShare, NoName, NoMark, NoDeed, NoRule, TooMuch, NoText, NoRow]
NAMES = [
    "Empty", "NoEnd", "Clash", "NoCount", "NoShare", "NoName",
    "NoMark", "NoDeed", "NoRule", "TooMuch", "NoText", "NoRow",
]
LARGE = 10 ** 500 - 1


def made(sort):
    return sort(4, 5, 6) if sort is Clash else sort("words")


class TestErrorClasses(unittest.TestCase):

    def test_span_error_stands_under_value_error(self):
        self.assertEqual(SpanError.__bases__, (ValueError,))

    def test_each_stands_straight_under_span_error(self):
        for sort in TWELVE:
            self.assertEqual(sort.__bases__, (SpanError,), sort)

    def test_none_stands_under_another(self):
        for sort in TWELVE:
            for other in TWELVE:
                self.assertEqual(issubclass(sort, other), sort is other, (sort, other))

    def test_there_are_twelve_that_bear_their_names(self):
        self.assertEqual([sort.__name__ for sort in TWELVE], NAMES)
        self.assertEqual(len(set(TWELVE)), 12)

    def test_each_belongs_to_the_errors_module(self):
        for sort in TWELVE + [SpanError]:
            self.assertEqual(sort.__module__, "spanmap.errors")
            self.assertIs(getattr(errors, sort.__name__), sort)

    def test_each_is_taken_by_its_own_name_and_as_any_refusal(self):
        for sort in TWELVE:
            for taken in (sort, SpanError, ValueError):
                with self.assertRaises(taken):
                    raise made(sort)

    def test_each_is_taken_by_no_other_name(self):
        for sort in TWELVE:
            others = tuple(other for other in TWELVE if other is not sort)
            self.assertNotIsInstance(made(sort), others)

    def test_those_without_fields_are_made_of_nothing_too(self):
        for sort in TWELVE:
            if sort is not Clash:
                self.assertIsInstance(sort(), SpanError)


class TestClash(unittest.TestCase):

    def check_fields(self, place, one, other):
        clash = Clash(place, one, other)
        self.assertEqual((clash.place, clash.one, clash.other), (place, one, other))

    def test_fields_are_what_it_was_made_of(self):
        self.check_fields(3, 7, 9)

    def test_fields_keep_their_turn(self):
        for three in ((1, 2, 3), (1, 3, 2), (2, 1, 3), (2, 3, 1), (3, 1, 2), (3, 2, 1)):
            self.check_fields(*three)

    def test_fields_at_and_below_nought(self):
        self.check_fields(0, 0, -1)
        self.check_fields(-5, -6, 0)

    def test_fields_of_five_hundred_figures(self):
        self.check_fields(LARGE, -LARGE, LARGE - 1)
        self.check_fields(-LARGE, LARGE, 1 - LARGE)

    def test_fields_are_there_where_it_is_taken(self):
        with self.assertRaises(SpanError) as taken:
            raise Clash(11, 12, 13)
        clash = taken.exception
        self.assertEqual((clash.place, clash.one, clash.other), (11, 12, 13))

    def test_each_clash_has_fields_of_its_own(self):
        first = Clash(1, 2, 3)
        second = Clash(4, 5, 6)
        self.assertEqual((first.place, first.one, first.other), (1, 2, 3))
        self.assertEqual((second.place, second.one, second.other), (4, 5, 6))

    def test_it_is_made_of_just_three(self):
        for wrong in ((), (1,), (1, 2), (1, 2, 3, 4)):
            with self.assertRaises(TypeError):
                Clash(*wrong)


if __name__ == "__main__":
    unittest.main()
