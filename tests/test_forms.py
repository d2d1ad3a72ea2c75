import copy
import unittest

from canontext import errors
from canontext.forms import are_equivalent, blocks, first_difference, is_path, path_between
from canontext.soundness import decomposed
from canontext.tables import Table
from tests.values import any_values, equivalent_texts, example, replaced_once, sides_of, sound_tables, texts_up_to


def example_of_forms():
    """The table of the example behind point 43."""
    return Table({"a": 0, "b": 0, "m": 1, "n": 2, "B": 0}, decompositions={"B": "bm"})


def eight_atoms():
    """A table with bases of one, two, four and eight atoms, and a long row of composites of one character."""
    lines = ["a 0", "u 1", "v 2", "A 0 = av", "B 0 = Au", "C 0 = BA", "D 0 = Cu", "E 0 = Du", "F 0 = Eu"]
    row = "ghijklmnop"
    lines.extend([f"{one} 0 = {other}" for one, other in zip(row, "F" + row)])
    return Table.from_text("\n".join(lines))


class BlocksTest(unittest.TestCase):
    def test_example_of_point_43(self):
        table = example_of_forms()
        self.assertEqual([blocks(table, "mBn"), first_difference(table, "Bn", "bn"),
                          are_equivalent(table, "anm", "amn")], [["m", "bmn"], (1, "m", "n"), True])
        self.assertEqual([is_path(table, "bnm", "Bn", ["bnm", "bmn", "Bn"]),
                          is_path(table, "bnm", "Bn", ["bnm", "Bn"])], [True, False])

    def test_blocks(self):
        table = example_of_forms()
        for text, found in (
            ("", [""]),
            ("nm", ["mn"]),
            ("b", ["", "b"]),
            ("ab", ["", "a", "b"]),
            ("nmnBnmab", ["mnn", "bmmn", "a", "b"]),
            ("BB", ["", "bm", "bm"]),
        ):
            self.assertEqual(blocks(table, text), found)

    def test_composites_of_several_bases(self):
        table = Table.from_text("a 0\nb 0\nu 1\nv 2\nD 0 = ab\nE 0 = Du\nF 0 = EE")
        self.assertEqual(blocks(table, "vuFvDu"), ["uv", "a", "bu", "a", "buv", "a", "bu"])

    def test_marks_that_contain_bases(self):
        table = Table.from_text("a 0\nu 1\nW 1 = ua")
        self.assertEqual(blocks(table, "WW"), ["u", "au", "a"])

    def test_blocks_join_to_the_form(self):
        for table in sound_tables():
            for text in texts_up_to(table, 3):
                found = blocks(table, text)
                self.assertEqual("".join(found), decomposed(table, text))
                self.assertNotIn(True, [character in table.bases for character in found[0]])
                for block in found[1:]:
                    self.assertEqual([character in table.bases for character in block],
                                     [True] + [False] * (len(block) - 1))

    def test_lists_are_new(self):
        table = example()
        blocks(table, "").append("a")
        self.assertEqual(blocks(table, ""), [""])


class DifferenceTest(unittest.TestCase):
    def expect(self, table, one, other, index, first, second):
        self.assertEqual(first_difference(table, one, other), (index, first, second))
        self.assertEqual(first_difference(table, other, one), (index, second, first))
        self.assertIs(are_equivalent(table, one, other), False)
        self.assertIs(are_equivalent(table, other, one), False)

    def test_differences(self):
        table = example_of_forms()
        self.expect(table, "Bn", "bn", 1, "m", "n")
        self.expect(table, "anm", "aB", 1, "m", "b")
        self.expect(table, "bnBn", "bnBm", 4, "n", "m")
        self.expect(table, "a", "b", 0, "a", "b")

    def test_forms_that_have_ended(self):
        table = example_of_forms()
        self.expect(table, "", "Ba", 0, "", "b")
        self.expect(table, "bn", "bnn", 2, "", "n")
        self.expect(table, "B", "Bnnm", 2, "", "m")
        self.expect(table, "B" * 60, "B" * 59 + "b", 119, "m", "")

    def test_equivalent_texts(self):
        table = example_of_forms()
        for one, other in (("", ""), ("Bn", "bnm"), ("mnmn", "nnmm"), ("B" * 30, "bm" * 30), ("a", "a")):
            self.assertIs(first_difference(table, one, other), None)
            self.assertIs(are_equivalent(table, one, other), True)

    def test_marks_of_one_class_do_not_change_places(self):
        table = Table({"a": 0, "u": 1, "x": 1, "v": 2})
        self.expect(table, "aux", "axu", 1, "u", "x")
        self.assertIs(are_equivalent(table, "avux", "auxv"), True)

    def test_as_steps_say(self):
        for table in sound_tables():
            sets = equivalent_texts(table, 2)
            for texts in sets:
                for other in sets:
                    for text in (texts[0], texts[-1]):
                        self.assertIs(are_equivalent(table, text, other[0]), texts is other)
                        self.assertEqual(first_difference(table, text, other[0]) is None, texts is other)


class PathTest(unittest.TestCase):
    def check(self, table, one, other):
        """Check that the path between two equivalent texts is one, by the steps of the tests."""
        path = path_between(table, one, other)
        self.assertIs(type(path), list)
        self.assertEqual((path[0], path[-1]), (one, other))
        sides = sides_of(table)
        for first, second in zip(path, path[1:]):
            self.assertIn(second, replaced_once(sides, first))
        self.assertIs(is_path(table, one, other, path), True)
        self.assertIs(is_path(table, one, other, tuple(path)), True)
        self.assertIs(is_path(table, other, one, path[::-1]), True)
        self.assertIs(is_path(table, one, other, path[:-1]), False)
        return path

    def test_paths(self):
        table = example_of_forms()
        for one, other in (("bnm", "Bn"), ("Bn", "bnm"), ("nmBmn", "mnbnmm"), ("BBB", "bmBbm"), ("bmbm", "BB")):
            self.check(table, one, other)

    def test_from_a_text_to_itself(self):
        table = example_of_forms()
        for text in ("", "a", "m", "bmn", "mn"):
            self.assertIs(is_path(table, text, text, [text]), True)
            self.check(table, text, text)

    def test_texts_that_are_not_equivalent(self):
        table = example_of_forms()
        for one, other in (("", "a"), ("a", ""), ("Bn", "bn"), ("nm" * 30, "nm" * 29 + "nn")):
            self.assertIs(path_between(table, one, other), None)

    def test_between_all_equivalent_texts(self):
        for table in sound_tables():
            for texts in equivalent_texts(table, 2):
                for text in texts:
                    self.check(table, text, texts[0])
                    self.check(table, texts[-1], text)

    def test_forms_of_sixty_atoms(self):
        table = eight_atoms()
        self.assertEqual(len(table.atoms("C")), 5)
        self.check(table, "C" * 12, "BA" * 12)
        self.check(table, "p" * 7 + "auvv", "g" * 7 + "avvu")
        self.check(table, "a" * 60, "a" * 60)

    def test_sixty_marks_against_their_order(self):
        table = Table({letter: 1 + at // 2 for at, letter in enumerate("abcdefghijkl")})
        marks = "".join([letter * 5 for letter in "lkjihgfedcba"])
        path = self.check(table, marks, decomposed(table, marks))
        self.assertGreater(len(path), 1000)

    def test_forms_of_more_than_sixty_atoms(self):
        table = eight_atoms()
        for one, other, total in (
            ("C" * 12 + "a", "C" * 12, 61),
            ("C" * 12, "C" * 12 + "a", 61),
            ("C" * 12 + "a", "C" * 13, 61),
            ("C" * 13, "C" * 12 + "a", 65),
            ("F" * 60, "F" * 60, 480),
            ("", "F" * 60, 480),
        ):
            with self.assertRaises(errors.TooMany) as caught:
                path_between(table, one, other)
            self.assertEqual(caught.exception.total, total)
            self.assertIs(type(caught.exception.total), int)

    def test_texts_count_before_the_number_of_atoms(self):
        table = eight_atoms()
        with self.assertRaises(errors.InvalidText) as caught:
            path_between(table, "F" * 60, "F" * 61)
        self.assertEqual(caught.exception.value, "F" * 61)

    def test_lists_are_new(self):
        table = example_of_forms()
        for one, other in (("a", "a"), ("bnm", "Bn")):
            path_between(table, one, other).clear()
            self.check(table, one, other)


class IsPathTest(unittest.TestCase):
    def test_any_value(self):
        table = example_of_forms()
        for value in any_values() + ["a", "", table, [table], ["a", table], [table, "a"], [["a"]], ["a", None, "a"],
                                     ["a", "a"], {"a": "a"}, ["b"], ["a", 0], ["a", ["a"]], ["a", "a "]]:
            self.assertIs(is_path(table, "a", "a", value), value == ["a"] or value == ("a",), value)

    def test_ends_must_be_the_texts(self):
        table = example_of_forms()
        path = ["bnm", "bmn", "Bn"]
        self.assertIs(is_path(table, "bnm", "Bn", path), True)
        for one, other in (("bnm", "bmn"), ("bmn", "Bn"), ("Bn", "bnm"), ("", "Bn"), ("bnm", "")):
            self.assertIs(is_path(table, one, other, path), False)
        self.assertIs(is_path(table, "", "", []), False)
        self.assertIs(is_path(table, "", "", [""]), True)

    def test_each_step_must_be_one(self):
        table = example_of_forms()
        for path in (["bnm", "bnm", "bmn", "Bn"], ["bnm", "Bn"], ["bnm", "mbn", "Bn"], ["bnm", "bmn", "bmn", "Bn"],
                     ["bnm", "bmn", "B?", "Bn"], ["bnm", "bmn", None, "Bn"], ["bnm", "bmn", "BZ", "Bn"],
                     ["bnm", ["bmn"], "Bn"]):
            self.assertIs(is_path(table, "bnm", "Bn", path), False)

    def test_a_way_there_and_back(self):
        table = example_of_forms()
        path = ["Bn", "bmn", "bnm", "bmn"] * 500
        self.assertIs(is_path(table, "Bn", "bmn", path), True)
        self.assertIs(is_path(table, "Bn", "Bn", path + ["Bn"]), True)
        self.assertIs(is_path(table, "Bn", "Bn", path + ["bnm", "Bn"]), False)

    def test_texts_of_any_lengths(self):
        table = Table({"a": 0, "A": 0}, decompositions={"A": "aa"})
        down = ["A" * (60 - done) + "aa" * done for done in range(61)]
        self.assertEqual(len(down[-1]), 120)
        self.assertIs(is_path(table, "A" * 60, "A" * 60, down + down[-2::-1]), True)
        self.assertIs(is_path(table, "A" * 60, "A" * 60, down + ["a" * 121] + down[-2::-1]), False)
        self.assertIs(is_path(table, "a", "a", ["a", "a" * 4000, "a"]), False)

    def test_the_value_is_not_modified(self):
        table = example_of_forms()
        for value in (["bnm", "bmn", "Bn"], ["bnm", [["bmn"]], "Bn"], {"bnm": ["Bn"]}):
            kept = copy.deepcopy(value)
            is_path(table, "bnm", "Bn", value)
            self.assertEqual(value, kept)
