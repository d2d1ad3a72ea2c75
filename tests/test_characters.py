import string
import unittest

from canontext.characters import in_order, is_character, is_text
from canontext.errors import InvalidCharacter
from tests.values import any_values, example

CHARACTERS = string.digits + string.ascii_uppercase + string.ascii_lowercase


class CharactersTest(unittest.TestCase):
    def test_example_of_point_11(self):
        self.assertEqual([in_order("baab0"), is_text("abba", "ab"), is_character("ab")], ["0ab", True, False])

    def test_exactly_the_letters_and_digits_are_characters(self):
        for code in list(range(32, 127)) + [10]:
            self.assertIs(is_character(chr(code)), chr(code) in CHARACTERS)

    def test_letters_and_digits_beyond_ascii_are_none(self):
        for value in ("\u00e4", "\u00b2", "\u0663", "\u03b1"):
            self.assertIs(is_character(value), False)

    def test_other_values_are_no_characters(self):
        for value in any_values() + ["", "ab", "AB", "01", CHARACTERS, ["a"], b"a", example()]:
            self.assertIs(is_character(value), False)

    def test_is_text_over_any_string(self):
        self.assertIs(is_text("", ""), True)
        self.assertIs(is_text("", "ab"), True)
        self.assertIs(is_text("a", ""), False)
        self.assertIs(is_text("aab", "ba"), True)
        self.assertIs(is_text("abc", "ab"), False)
        self.assertIs(is_text("A", "a"), False)
        self.assertIs(is_text("a b\n", "b a\n"), True)
        self.assertIs(is_text("a b", "ab"), False)
        self.assertIs(is_text("_ _", "_ "), True)

    def test_is_text_does_not_check_the_length(self):
        self.assertIs(is_text("ab" * 2000, "ab"), True)
        self.assertIs(is_text("ab" * 2000 + "c", "ab"), False)

    def test_other_values_are_no_texts(self):
        for value in any_values() + [["a"], ("a", "b"), {"a": 0}, b"a", example()]:
            if not isinstance(value, str):
                self.assertIs(is_text(value, CHARACTERS), False)

    def test_in_order(self):
        self.assertEqual(in_order(""), "")
        self.assertEqual(in_order("zZ9aA0zz"), "09AZaz")
        self.assertEqual(in_order(CHARACTERS[::-1] * 2), CHARACTERS)
        self.assertEqual(in_order("ab" * 2000), "ab")

    def test_in_order_of_another_value(self):
        for value in any_values() + [["a", "b"], b"ab", example()]:
            if not isinstance(value, str):
                with self.assertRaises(InvalidCharacter) as caught:
                    in_order(value)
                self.assertIs(caught.exception.value, value)

    def test_in_order_of_an_argument_that_grows_afterwards(self):
        value = ["a"]
        with self.assertRaises(InvalidCharacter) as caught:
            in_order(value)
        value.append("b")
        self.assertIs(caught.exception.value, value)

    def test_in_order_with_items_that_are_no_characters(self):
        for characters, first in (("ba c_", " "), ("z_ ", "_"), ("\n", "\n"), ("ab-+", "-")):
            with self.assertRaises(InvalidCharacter) as caught:
                in_order(characters)
            self.assertEqual(caught.exception.value, first)

    def test_arguments_by_name(self):
        self.assertIs(is_character(value="a"), True)
        self.assertIs(is_text(characters="ab", value="a"), True)
        self.assertEqual(in_order(characters="ba"), "ab")
