import unittest

from spanmap import ends
from spanmap.ends import End, Endless, Open, Shut

# Of these the next place has no more than five hundred figures either.
LARGE = 10 ** 500 - 2
PLACES = [
    1, 2, 7, 10, 1000, 0, -1, -2, -7, -10, -1000, 2 ** 31 - 1, 2 ** 63 - 1, 2 ** 64, -2 ** 63, -2 ** 64 - 1,
    10 ** 60, -10 ** 60, 10 ** 499, -10 ** 499, LARGE, -LARGE, -LARGE - 1,
]
KINDS = [End, Shut, Open, Endless]


class TestEnds(unittest.TestCase):

    def check_place(self, told, place):
        self.assertIs(type(told), int)
        self.assertEqual(told, place)

    def test_shut_lets_its_place_in(self):
        self.check_place(Shut(3).low(), 3)
        self.check_place(Shut(3).behind(), 4)

    def test_open_leaves_its_place_out(self):
        self.check_place(Open(3).low(), 4)
        self.check_place(Open(3).behind(), 3)

    def test_round_nought(self):
        self.check_place(Shut(-1).behind(), 0)
        self.check_place(Shut(0).low(), 0)
        self.check_place(Shut(0).behind(), 1)
        self.check_place(Open(-1).low(), 0)
        self.check_place(Open(0).low(), 1)
        self.check_place(Open(0).behind(), 0)

    def test_shut_at_many_places(self):
        for place in PLACES:
            self.check_place(Shut(place).low(), place)
            self.check_place(Shut(place).behind(), place + 1)

    def test_open_at_many_places(self):
        for place in PLACES:
            self.check_place(Open(place).low(), place + 1)
            self.check_place(Open(place).behind(), place)

    def test_five_hundred_figures_are_told_to_the_last_one(self):
        nines = int("9" * 500)
        self.check_place(Shut(nines).low(), nines)
        self.check_place(Open(nines).behind(), nines)
        self.check_place(Shut(nines - 1).behind(), nines)
        self.check_place(Open(nines - 1).low(), nines)
        self.check_place(Shut(-nines).behind(), 1 - nines)
        self.check_place(Open(-nines).low(), 1 - nines)

    def test_endless_tells_none(self):
        self.assertIsNone(Endless().low())
        self.assertIsNone(Endless().behind())

    def test_each_end_keeps_its_own_place(self):
        shut, other_shut, opened, other_opened = Shut(1), Shut(20), Open(300), Open(4000)
        self.assertEqual([shut.low(), other_shut.low(), opened.low(), other_opened.low()], [1, 20, 301, 4001])
        self.assertEqual([shut.behind(), other_shut.behind(), opened.behind(), other_opened.behind()],
                         [2, 21, 300, 4000])

    def test_the_same_asked_again_has_the_same_answer(self):
        shut, opened, endless = Shut(5), Open(5), Endless()
        for turn in range(3):
            self.assertEqual((shut.low(), shut.behind()), (5, 6))
            self.assertEqual((opened.low(), opened.behind()), (6, 5))
            self.assertEqual((endless.low(), endless.behind()), (None, None))


class TestKindsOfEnd(unittest.TestCase):

    def test_each_is_an_end_and_of_no_other_kind(self):
        for end, own in ((Shut(2), Shut), (Open(2), Open), (Endless(), Endless)):
            kinds = [kind for kind in KINDS if isinstance(end, kind)]
            self.assertEqual(kinds, [End, own])

    def test_each_stands_straight_under_end(self):
        for kind in (Shut, Open, Endless):
            self.assertEqual(kind.__bases__, (End,))

    def test_an_end_can_be_made(self):
        self.assertIs(type(End()), End)

    def test_what_they_are_made_of(self):
        for kind in (Shut, Open):
            for wrong in ((), (1, 2)):
                with self.assertRaises(TypeError):
                    kind(*wrong)
        with self.assertRaises(TypeError):
            Endless(1)

    def test_each_belongs_to_the_ends_module(self):
        for kind in KINDS:
            self.assertEqual(kind.__module__, "spanmap.ends")
            self.assertIs(getattr(ends, kind.__name__), kind)


if __name__ == "__main__":
    unittest.main()
