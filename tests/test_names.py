import string
import unittest

from spanmap import names
from spanmap.names import is_name

NO_SMALL_LETTERS = [chr(code) for code in range(128) if chr(code) not in string.ascii_lowercase]


class TestIsName(unittest.TestCase):

    def check_name(self, thing):
        self.assertIs(is_name(thing), True, repr(thing))

    def check_no_name(self, thing):
        self.assertIs(is_name(thing), False, repr(thing))

    def test_it_belongs_to_the_names_module(self):
        self.assertEqual(is_name.__module__, "spanmap.names")
        self.assertIs(names.is_name, is_name)

    def test_each_small_letter_is_a_name(self):
        for letter in string.ascii_lowercase:
            self.check_name(letter)

    def test_each_small_letter_at_each_place(self):
        for letter in string.ascii_lowercase:
            for at in range(8):
                self.check_name("m" * at + letter + "m" * (7 - at))

    def test_one_to_eight_letters(self):
        for many in range(1, 9):
            self.check_name("abcdefgh"[:many])
            self.check_name("a" * many)
            self.check_name("z" * many)

    def test_ordinary_words(self):
        for word in ("line", "mark", "az", "za", "stretch", "none"):
            self.check_name(word)

    def test_the_text_without_signs_is_none(self):
        self.check_no_name("")

    def test_nine_letters_and_more_are_none(self):
        self.check_no_name("abcdefghi")
        for many in (9, 10, 16, 300):
            self.check_no_name("a" * many)
            self.check_no_name("z" * many)

    def test_a_sign_that_is_no_small_letter_by_itself(self):
        for sign in NO_SMALL_LETTERS:
            self.check_no_name(sign)

    def test_a_sign_that_is_no_small_letter_among_letters(self):
        for sign in NO_SMALL_LETTERS:
            self.check_no_name(sign + "bcd")
            self.check_no_name("a" + sign + "cd")
            self.check_no_name("abc" + sign)
            self.check_no_name(sign + "bcdefgh")
            self.check_no_name("abcd" + sign + "fgh")
            self.check_no_name("abcdefg" + sign)

    def test_the_kinds_of_sign_that_are_none(self):
        for sign in ("A", "Z", "0", "9", " ", "\n", "\r", "\t", "`", "{", "@", "[", "_", "-"):
            self.assertIn(sign, NO_SMALL_LETTERS)
            self.check_no_name(sign + "ab")
            self.check_no_name("a" + sign + "b")
            self.check_no_name("ab" + sign)

    def test_eight_letters_and_a_sign_more_are_none(self):
        for sign in NO_SMALL_LETTERS:
            self.check_no_name("abcdefgh" + sign)
            self.check_no_name(sign + "abcdefgh")

    def test_things_that_are_no_texts(self):
        for thing in (
            None, 0, 1, -1, 97, 10 ** 499, True, False, [], ["a"], ["a", "b"], (), ("a",), ("a", "b"),
            {}, {"a": True}, {"a"}, b"a", 1.5, object(), str, is_name,
        ):
            self.check_no_name(thing)

    def test_what_is_asked_of_stays_as_it_was(self):
        thing = ["a", "b"]
        self.check_no_name(thing)
        self.assertEqual(thing, ["a", "b"])

    def test_the_same_asked_again_has_the_same_answer(self):
        for turn in range(3):
            self.check_name("again")
            self.check_no_name("Again")


if __name__ == "__main__":
    unittest.main()
