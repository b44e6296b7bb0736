"""Points 2 and 12: whole numbers and names."""

import unittest

from quotatree.words import is_name, is_whole

LETTERS = "abcdefghijklmnopqrstuvwxyz"
# Every sign that a text handed in may have.
SIGNS = [chr(code) for code in range(32, 127)] + ["\n", "\t"]
NO_TEXTS = (
    True, False, None, 0, 1, 12345678, -1, [], ["a"], ["a", "b"], (), ("a",), {}, {"a": 1},
    {"a"}, b"a", 1.0, object(), len, str, int,
)


class Whole(unittest.TestCase):
    def test_whole_numbers(self):
        for thing in (0, 1, -1, 2, -7, 1000, 10 ** 30, 10 ** 30 + 1, -(10 ** 30), 3 ** 2000, -(3 ** 2000)):
            with self.subTest(figures=len(str(thing))):
                self.assertIs(is_whole(thing), True)

    def test_things_that_are_none(self):
        things = (
            True, False, None, "", "0", "1", "mill", [], [1], (), (1,), (1, 2), {}, {1: 1},
            {1}, 0.0, 1.0, 1j, b"1", object(), int, len,
        )
        for thing in things:
            with self.subTest(thing=thing):
                self.assertIs(is_whole(thing), False)


class Name(unittest.TestCase):
    def test_each_letter_alone(self):
        for letter in LETTERS:
            with self.subTest(letter):
                self.assertIs(is_name(letter), True)

    def test_each_length_from_one_to_eight(self):
        for length in range(1, 9):
            with self.subTest(length):
                self.assertIs(is_name(LETTERS[:length]), True)
                self.assertIs(is_name("z" * length), True)

    def test_texts_that_are_too_short_or_too_long(self):
        for text in ("", "abcdefghi", "zzzzzzzzz", LETTERS, "a" * 1000):
            with self.subTest(text):
                self.assertIs(is_name(text), False)

    def test_every_other_sign_at_every_place(self):
        for sign in SIGNS:
            if sign not in LETTERS:
                for text in (sign, sign + "mill", "mi" + sign + "ll", "mill" + sign):
                    with self.subTest(text=text):
                        self.assertIs(is_name(text), False)

    def test_wrong_texts_told_one_by_one(self):
        texts = (
            "A", "Mill", "MILL", "milL", "1", "mill1", "mi ll", " mill", "mill ", " ", "mill\n", "\n",
            "\nmill", "mill\t", "mi_ll", "mi-ll", "mill.", "`", "{", "a{", "a|b", "abcdefgh\n", "abcdefg\n",
        )
        for text in texts:
            with self.subTest(text=text):
                self.assertIs(is_name(text), False)

    def test_things_that_are_no_texts(self):
        for thing in NO_TEXTS:
            with self.subTest(thing=thing):
                self.assertIs(is_name(thing), False)


class Asking(unittest.TestCase):
    def test_nothing_is_changed(self):
        things = [["a"], {"a": 1}, [1, 2]]
        for thing in things:
            is_whole(thing)
            is_name(thing)
        self.assertEqual(things, [["a"], {"a": 1}, [1, 2]])


if __name__ == "__main__":
    unittest.main()
