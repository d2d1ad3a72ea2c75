import unittest

from canontext import errors
from canontext.tables import Table
from tests.values import any_values, example, small_tables

LETTERS = "abcdefghijklmnopqrstuvwxyzABCDEFGHIJ"


class TableTextTest(unittest.TestCase):
    def expect(self, error, value, text):
        with self.assertRaises(error) as caught:
            Table.from_text(text)
        self.assertEqual(list(vars(caught.exception).values()), [value])

    def test_str(self):
        self.assertEqual(str(Table({"a": 0})), "a 0")
        self.assertEqual(str(Table({"b": 9, "a": 3, "0": 0})), "0 0\na 3\nb 9")
        table = Table({"a": 0, "A": 0, "B": 0, "C": 0}, decompositions={"A": "a", "C": "aa", "B": "AA"}, excluded="AC")
        self.assertEqual(str(table), "A 0 = a excluded\nB 0 = AA\nC 0 = aa excluded\na 0")

    def test_from_text_of_str_is_equal(self):
        for table in small_tables() + [example(), Table({letter: 9 for letter in LETTERS[:30]})]:
            self.assertEqual(Table.from_text(str(table)), table)
            self.assertEqual(str(Table.from_text(str(table))), str(table))

    def test_the_lines_may_have_any_order(self):
        lines = str(example()).split("\n")
        for shift in range(len(lines)):
            for order in (lines[shift:] + lines[:shift], (lines[shift:] + lines[:shift])[::-1]):
                self.assertEqual(Table.from_text("\n".join(order)), example())

    def test_another_kind_of_value(self):
        for value in any_values() + [["a 0"], b"a 0", example()]:
            if not isinstance(value, str):
                with self.assertRaises(errors.InvalidText) as caught:
                    Table.from_text(value)
                self.assertIs(caught.exception.value, value)

    def test_lines_that_have_not_the_form(self):
        for line in (
            "", " ", "a", "a ", " a 0", "a 0 ", "a  0", "a 00", "a 01", "a 10", "a 0123456789", "a -1", "a x", "a 0x", "0", "a +1",
            "ab 0", "_ 0", "= 0", "a 0 =", "a 0 = ", "a 0 b", "a 0 bb c", "a 0 == b", "a 0 = b excluded x",
            "a 0 = b Excluded", "a 0 = b exclude", "a 0 excluded", "a 0  = b", "a 0 =  b", "a 0 = b  excluded",
            "a 0 = b excluded ", "a 0 = b c", "a 0 = excluded excluded excluded", "a 0=b", "a0", "a 0 0", "A = au",
        ):
            self.expect(errors.InvalidLine, 0, line)
            self.expect(errors.InvalidLine, 1, f"b 0\n{line}")
            self.expect(errors.InvalidLine, 2, f"b 0\nc 0\n{line}\n{line}")

    def test_the_empty_string_is_one_empty_line(self):
        self.expect(errors.InvalidLine, 0, "")
        self.expect(errors.InvalidLine, 0, "\n")
        self.expect(errors.InvalidLine, 1, "a 0\n")
        self.expect(errors.InvalidLine, 1, "a 0\n\nb 0")

    def test_a_character_of_an_earlier_line(self):
        self.expect(errors.InvalidLine, 1, "a 0\na 0")
        self.expect(errors.InvalidLine, 2, "a 0\nA 0 = a\na 1\n")
        self.expect(errors.InvalidLine, 3, "a 0\nA 0\nb 0\nA 0 = a\nb")

    def test_the_first_wrong_line_counts(self):
        self.expect(errors.InvalidLine, 1, "a 0\nb\nc\na 0")
        self.expect(errors.InvalidLine, 1, "a 0\na 0\nb")

    def test_lines_count_before_the_errors_of_the_table(self):
        self.expect(errors.InvalidLine, 2, "A 0 = A\nb 0 = zzz\nx")
        self.expect(errors.InvalidLine, 40, "\n".join([f"{letter} 0" for letter in LETTERS + "0123"]) + "\nx")

    def test_errors_of_the_table(self):
        self.expect(errors.TooMany, 31, "\n".join([f"{letter} 0" for letter in LETTERS[:31]]))
        self.expect(errors.InvalidDecomposition, "aaa", "a 0\nA 0 = aaa")
        self.expect(errors.InvalidDecomposition, "b", "a 0\nA 0 = b excluded")
        self.expect(errors.InvalidDecomposition, "=", "a 0\nA 0 = =")
        self.expect(errors.InvalidDecomposition, "excluded", "a 0\nA 0 = excluded")
        self.expect(errors.InvalidDecomposition, "first", "B 0 = second\na 0\nA 0 = first")
        self.expect(errors.Cyclic, "A", "a 0\nB 0 = A\nA 0 = Ba")
        self.expect(errors.TooMany, 9, "a 0\nA 0 = aa\nB 0 = AA\nC 0 = BB\nD 0 = Ca")
        self.expect(errors.Mixed, "A", "a 0\nu 1\nA 0 = u")
        with self.assertRaises(errors.Ambiguous) as caught:
            Table.from_text("a 0\nC 0 = aa\nB 0 = aa excluded\nA 0 = aa")
        self.assertEqual((caught.exception.first, caught.exception.second), ("A", "C"))

    def test_classes_are_single_digits(self):
        table = Table.from_text("\n".join([f"{letter} {digit}" for digit, letter in enumerate(LETTERS[:10])]))
        self.assertEqual([table.class_of(letter) for letter in LETTERS[:10]], list(range(10)))

    def test_arguments_by_name(self):
        self.assertEqual(Table.from_text(text="a 0"), Table({"a": 0}))
