"""Names and whole numbers: point 2."""

import unittest

from hourring.towns import is_name, is_whole
from tests.helper import GREAT, LETTERS, OTHER_SIGNS, odd_things


class Names(unittest.TestCase):
    def test_every_letter_is_a_name(self):
        for letter in LETTERS:
            self.assertIs(is_name(letter), True, letter)

    def test_names_of_one_to_eight_letters(self):
        for many in range(1, 9):
            self.assertIs(is_name("z" * many), True, many)
        self.assertIs(is_name("abcdefgh"), True)
        self.assertIs(is_name("stuvwxyz"), True)

    def test_no_letters_or_more_than_eight(self):
        for many in [0, 9, 10, 1000]:
            self.assertIs(is_name("a" * many), False, many)

    def test_another_sign_at_any_place(self):
        for sign in OTHER_SIGNS:
            for text in [sign, sign + "nn", "a" + sign + "n", "an" + sign, "abcdefg" + sign, "abcdefgh" + sign]:
                with self.subTest(text):
                    self.assertIs(is_name(text), False)

    def test_things_that_are_no_text(self):
        for at, thing in enumerate(odd_things()):
            with self.subTest(at):
                self.assertIs(is_name(thing), False)
        self.assertIs(is_name(["a"]), False)
        self.assertIs(is_name(("a", "b")), False)
        self.assertIs(is_name(1), False)


class Wholes(unittest.TestCase):
    def test_at_each_bound_and_one_beyond(self):
        for least, most in [(0, 5), (1, GREAT), (-GREAT, GREAT), (-7, -3), (4, 4)]:
            with self.subTest(least=least, most=most):
                self.assertIs(is_whole(least, least, most), True)
                self.assertIs(is_whole(most, least, most), True)
                self.assertIs(is_whole(least - 1, least, most), False)
                self.assertIs(is_whole(most + 1, least, most), False)

    def test_within(self):
        for number in range(-3, 4):
            self.assertIs(is_whole(number, -3, 3), True, number)

    def test_none_in_bounds_that_hold_nothing(self):
        for number in range(0, 5):
            self.assertIs(is_whole(number, 3, 2), False, number)

    def test_true_and_false_are_no_numbers(self):
        for thing in [True, False]:
            self.assertIs(is_whole(thing, 0, 1), False)
            self.assertIs(is_whole(thing, -GREAT, GREAT), False)

    def test_other_kinds(self):
        for thing in odd_things() + ["1", "0", b"1", [1], (1,), {1: 1}, {1}]:
            if isinstance(thing, int):
                continue
            self.assertIs(is_whole(thing, -GREAT, GREAT), False)
