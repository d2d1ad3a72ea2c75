import copy
import itertools
import string
import unittest

from canontext import errors
from canontext.tables import Table
from tests.values import any_values, example

LETTERS = string.ascii_letters
CHAIN = LETTERS[:30]


def doubled(characters):
    """Arguments of a table in which each character but the last is twice the next one."""
    classes = {character: 0 for character in characters}
    decompositions = {one: other * 2 for one, other in zip(characters, characters[1:])}
    return classes, decompositions


def turn(value):
    """A dict with the keys in the opposite order; any other value itself."""
    return dict(reversed(list(value.items()))) if isinstance(value, dict) else value


class TableErrorsTest(unittest.TestCase):
    def expect(self, error, *values, classes, **more):
        """Check that no order of the keys changes the error, and that its attributes are the values."""
        for turned in (False, True):
            passed = [turn(value) if turned else value for value in (classes, more.get("decompositions"))]
            keywords = {**more, "decompositions": passed[1]} if "decompositions" in more else more
            kept = copy.deepcopy((passed[0], keywords))
            with self.assertRaises(error) as caught:
                Table(passed[0], **keywords)
            self.assertIs(type(caught.exception), error)
            told = list(vars(caught.exception).values())
            self.assertEqual(told, list(values))
            self.assertEqual([type(value) for value in told], [type(value) for value in values])
            self.assertEqual((passed[0], keywords), kept)

    def test_classes_of_another_kind(self):
        for value in any_values() + ["a", "au", [("a", 0)], example()]:
            if not isinstance(value, dict):
                with self.assertRaises(errors.InvalidClass) as caught:
                    Table(value, decompositions=1, excluded=1)
                self.assertIs(caught.exception.value, value)

    def test_keys_that_are_no_characters(self):
        for key in ("", "ab", " ", "_", "\n", 0, 1, True, None, (), ("a",)):
            for classes in ({key: 0}, {"a": 0, key: 1}, {key: 0, "b": 77}):
                with self.assertRaises(errors.InvalidClass) as caught:
                    Table(classes)
                self.assertIs(caught.exception.value, classes)

    def test_a_wrong_key_counts_before_the_number_of_characters(self):
        classes = {character: 0 for character in LETTERS + "_"}
        self.expect(errors.InvalidClass, classes, classes=classes)

    def test_no_characters_and_too_many(self):
        self.expect(errors.TooMany, 0, classes={})
        for total in (31, 32, 52):
            self.expect(errors.TooMany, total, classes={character: 0 for character in LETTERS[:total]})
            self.expect(errors.TooMany, total, classes={character: "x" for character in LETTERS[:total]})
        self.expect(errors.TooMany, 0, classes={}, decompositions=1, excluded=1)

    def test_thirty_characters_and_one(self):
        self.assertEqual(len(Table({character: 0 for character in LETTERS[:30]})), 30)
        self.assertEqual(len(Table({"a": 0})), 1)

    def test_classes_at_the_edges(self):
        self.assertEqual([Table({"a": 0}).class_of("a"), Table({"a": 9}).class_of("a")], [0, 9])
        for value in (10, -1, True, False, None, "1", "", [1], (), {}, 10 ** 29, [0], b"1"):
            self.expect(errors.InvalidClass, value, classes={"a": 0, "b": value, "c": 1})

    def test_a_wrong_class_is_kept_itself(self):
        value = [0]
        with self.assertRaises(errors.InvalidClass) as caught:
            Table({"a": value})
        value.append(1)
        self.assertIs(caught.exception.value, value)

    def test_the_first_wrong_class_in_ascending_order(self):
        self.expect(errors.InvalidClass, 12, classes={"c": 11, "B": 12, "b": 13})
        self.expect(errors.InvalidClass, 14, classes={"c": 11, "B": 12, "0": 14})
        self.expect(errors.InvalidClass, 11, classes={"a": 11}, decompositions=1, excluded=1)

    def test_decompositions_of_another_kind(self):
        for value in any_values() + ["a", [("A", "a")], example()]:
            if value is not None and not isinstance(value, dict):
                with self.assertRaises(errors.InvalidDecomposition) as caught:
                    Table({"a": 0}, decompositions=value, excluded=1)
                self.assertIs(caught.exception.value, value)

    def test_decompositions_of_what_is_no_character_of_the_table(self):
        for key in ("b", "", "aa", " ", 0, True, None, (), ("a",)):
            for decompositions in ({key: "a"}, {"A": "a", key: "a"}, {"A": 1, key: "a"}):
                with self.assertRaises(errors.InvalidDecomposition) as caught:
                    Table({"a": 0, "A": 0}, decompositions=decompositions)
                self.assertIs(caught.exception.value, decompositions)

    def test_decompositions_that_are_no_texts_of_one_or_two_characters(self):
        wrong = ["", "aaa", "b", "ab", "a ", " ", None, 0, 1, True, ["a"], ("a", "a"), ["a", "a"], {"a": 0}]
        for value in wrong:
            self.expect(errors.InvalidDecomposition, value, classes={"a": 0, "A": 0}, decompositions={"A": value})
        for value in ("a", "aa"):
            table = Table({"a": 0, "A": 0}, decompositions={"A": value})
            self.assertEqual((table.decomposition("A"), table.atoms("A")), (value, value))

    def test_a_wrong_decomposition_is_kept_itself(self):
        value = ["a"]
        with self.assertRaises(errors.InvalidDecomposition) as caught:
            Table({"a": 0, "A": 0}, decompositions={"A": value})
        value.append("a")
        self.assertIs(caught.exception.value, value)

    def test_the_first_wrong_decomposition_in_ascending_order(self):
        classes = {"a": 0, "A": 0, "B": 0, "C": 0}
        self.expect(errors.InvalidDecomposition, "aaaa", classes=classes,
                    decompositions={"C": "aaa", "B": "aaaa", "A": "a"}, excluded=1)
        self.expect(errors.InvalidDecomposition, "", classes=classes, decompositions={"C": "C", "A": ""})

    def test_cyclic_through_one_composite_and_through_several(self):
        classes = {character: 0 for character in "aABCD"}
        for decompositions, first in (
            ({"A": "A"}, "A"),
            ({"A": "aA"}, "A"),
            ({"A": "AA"}, "A"),
            ({"a": "a"}, "a"),
            ({"A": "a", "B": "Ba"}, "B"),
            ({"B": "C", "C": "B"}, "B"),
            ({"D": "Ca", "C": "aB", "B": "aD"}, "B"),
            ({"A": "aB", "B": "aC", "C": "aD", "D": "aA"}, "A"),
        ):
            self.expect(errors.Cyclic, first, classes=classes, decompositions=decompositions)

    def test_a_composite_that_only_leads_into_a_cycle_is_not_on_it(self):
        classes = {character: 0 for character in "aABCD"}
        for decompositions, first in (
            ({"A": "aB", "B": "B"}, "B"),
            ({"A": "B", "B": "Ca", "C": "aD", "D": "C"}, "C"),
            ({"A": "BC", "B": "aa", "C": "DD", "D": "aC"}, "C"),
            ({"A": "D", "D": "D", "B": "C", "C": "B"}, "B"),
        ):
            self.expect(errors.Cyclic, first, classes=classes, decompositions=decompositions)

    def test_a_composite_that_occurs_twice_is_not_cyclic(self):
        table = Table({character: 0 for character in "aABC"}, decompositions={"A": "BC", "B": "Ca", "C": "aa"})
        self.assertEqual(table.atoms("A"), "aaaaa")

    def test_eight_atoms_and_nine(self):
        classes, decompositions = doubled("ABCD")
        self.assertEqual(Table(classes, decompositions=decompositions).atoms("A"), "DDDDDDDD")
        classes["E"] = 0
        self.expect(errors.TooMany, 9, classes=classes, decompositions={**decompositions, "E": "AD"})
        self.expect(errors.TooMany, 12, classes=classes, decompositions={**decompositions, "E": "AB"})

    def test_the_exact_number_of_very_many_atoms(self):
        classes, decompositions = doubled(sorted(CHAIN))
        self.assertEqual(len(classes), 30)
        self.expect(errors.TooMany, 2 ** 29, classes=classes, decompositions=decompositions)

    def test_the_first_composite_of_too_many_atoms_in_ascending_order(self):
        classes, decompositions = doubled(sorted(CHAIN, reverse=True))
        self.expect(errors.TooMany, 16, classes=classes, decompositions=decompositions)

    def test_marks_that_begin_with_bases_and_bases_that_begin_with_marks(self):
        classes = {"a": 0, "u": 1, "v": 2, "A": 0, "B": 0, "W": 1, "X": 2}
        for decompositions, first in (
            ({"A": "u"}, "A"),
            ({"A": "ua"}, "A"),
            ({"W": "a"}, "W"),
            ({"W": "au"}, "W"),
            ({"B": "Wa", "W": "u"}, "B"),
            ({"W": "Au", "A": "au"}, "W"),
            ({"X": "W", "W": "A", "A": "a"}, "W"),
            ({"X": "a", "B": "v", "A": "a"}, "B"),
            ({"A": "Bu", "B": "ua"}, "A"),
        ):
            self.expect(errors.Mixed, first, classes=classes, decompositions=decompositions)

    def test_only_the_beginning_must_fit(self):
        table = Table({"a": 0, "u": 1, "A": 0, "W": 2}, decompositions={"A": "au", "W": "ua"})
        self.assertEqual([table.class_of("W"), table.atoms("W")], [2, "ua"])

    def test_excluded_of_another_kind(self):
        for value in any_values() + [["A"], ("A",), {"A": 0}, b"A", example()]:
            if not isinstance(value, str):
                with self.assertRaises(errors.InvalidExclusion) as caught:
                    Table({"a": 0, "A": 0}, decompositions={"A": "a"}, excluded=value)
                self.assertIs(caught.exception.value, value)

    def test_the_first_excluded_character_that_is_no_composite_in_the_order_of_the_string(self):
        classes = {"a": 0, "b": 0, "A": 0, "B": 0}
        decompositions = {"A": "a", "B": "aa"}
        for excluded, first in (("a", "a"), ("ABba", "b"), ("AzaB", "z"), (" A", " "), ("A\nB", "\n"), ("BA_", "_")):
            self.expect(errors.InvalidExclusion, first, classes=classes, decompositions=decompositions,
                        excluded=excluded)
        self.expect(errors.InvalidExclusion, "a", classes={"a": 0}, excluded="a")

    def test_ambiguous_composites(self):
        classes = {character: 0 for character in "abABCDEF"}
        for pairs, first, second in (
            ({"A": "ab", "B": "ab"}, "A", "B"),
            ({"D": "ab", "C": "ab", "B": "ba", "A": "b"}, "C", "D"),
            ({"A": "ab", "D": "ab", "B": "ba", "C": "ba"}, "A", "D"),
            ({"A": "ab", "B": "aa", "C": "ab", "D": "ab"}, "A", "C"),
            ({"A": "aa", "B": "Ab", "C": "Ab"}, "B", "C"),
        ):
            self.expect(errors.Ambiguous, first, second, classes=classes, decompositions=pairs)

    def test_excluded_composites_are_not_ambiguous(self):
        classes = {character: 0 for character in "abABC"}
        pairs = {"A": "ab", "B": "ab", "C": "ab"}
        self.expect(errors.Ambiguous, "A", "B", classes=classes, decompositions=pairs, excluded="C")
        self.expect(errors.Ambiguous, "A", "C", classes=classes, decompositions=pairs, excluded="BB")
        self.expect(errors.Ambiguous, "B", "C", classes=classes, decompositions=pairs, excluded="A")
        for excluded, left in (("AB", "C"), ("CA", "B"), ("BC", "A"), ("ABC", None)):
            table = Table(classes, decompositions=pairs, excluded=excluded)
            self.assertEqual(table.composite_of("a", "b"), left)

    def test_decompositions_of_one_character_and_different_orders_are_not_ambiguous(self):
        classes = {character: 0 for character in "abABCD"}
        table = Table(classes, decompositions={"A": "a", "B": "a", "C": "ab", "D": "ba"})
        self.assertEqual([table.composite_of("a", "b"), table.composite_of("b", "a")], ["C", "D"])

    def test_full_decompositions_in_common_are_not_ambiguous(self):
        table = Table({character: 0 for character in "aABC"}, decompositions={"A": "aa", "B": "Aa", "C": "aA"})
        self.assertEqual([table.atoms("B"), table.atoms("C")], ["aaa", "aaa"])

    def test_of_several_errors_the_first_one_listed(self):
        classes = {"a": 0, "u": 1, "A": 0, "B": 0, "C": 0, "D": 0, "E": 0, "Z": 0}
        ambiguous = {"C": "au", "B": "au"}
        mixed = {"Z": "u", **ambiguous}
        many = {"A": "aa", "D": "AA", "E": "DD", "C": "Ea", "Z": "u", "B": "Ea"}
        cyclic = {**many, "Z": "Z"}
        wrong = {**cyclic, "Z": "uuu"}
        self.expect(errors.Ambiguous, "B", "C", classes=classes, decompositions=ambiguous)
        self.expect(errors.InvalidExclusion, "a", classes=classes, decompositions=ambiguous, excluded="a")
        self.expect(errors.InvalidExclusion, None, classes=classes, decompositions=ambiguous, excluded=None)
        self.expect(errors.Mixed, "Z", classes=classes, decompositions=mixed, excluded="a")
        self.expect(errors.TooMany, 9, classes=classes, decompositions=many, excluded=None)
        self.expect(errors.Cyclic, "Z", classes=classes, decompositions=cyclic, excluded=None)
        self.expect(errors.InvalidDecomposition, "uuu", classes=classes, decompositions=wrong, excluded=None)
        self.expect(errors.InvalidDecomposition, 7, classes=classes, decompositions=7, excluded=None)
        self.expect(errors.InvalidClass, 10, classes={**classes, "A": 10}, decompositions=7, excluded=None)


class TableTest(unittest.TestCase):
    def test_example_of_point_24(self):
        table = example()
        self.assertEqual(
            [str(table).split("\n"), table.atoms("B"), table.marks, table.composite_of("a", "u")],
            [["A 0 = au", "B 0 = Av excluded", "a 0", "u 1", "v 2"], "auv", "uv", "A"],
        )

    def test_class_values(self):
        self.assertEqual((Table.MAX_CHARACTERS, Table.MAX_CLASS, Table.MAX_ATOMS), (30, 9, 8))

    def test_properties_in_ascending_order(self):
        table = Table({"z": 0, "9": 4, "Z": 0, "b": 9, "B": 9, "0": 0}, decompositions={"z": "0b", "B": "b", "Z": "z"},
                      excluded="zBzz")
        self.assertEqual(table.characters, "09BZbz")
        self.assertEqual(table.bases, "0Zz")
        self.assertEqual(table.marks, "9Bb")
        self.assertEqual(table.composites, "BZz")
        self.assertEqual(table.excluded, "Bz")

    def test_properties_without_any(self):
        base = Table({"a": 0})
        self.assertEqual((base.bases, base.marks, base.composites, base.excluded), ("a", "", "", ""))
        mark = Table({"u": 3}, decompositions={}, excluded="")
        self.assertEqual((mark.bases, mark.marks, mark.composites, mark.excluded), ("", "u", "", ""))

    def test_methods(self):
        table = Table({"a": 0, "u": 1, "v": 9, "A": 0, "B": 0, "W": 3}, decompositions={"A": "au", "B": "AW", "W": "v"})
        self.assertEqual([table.class_of(character) for character in table.characters], [0, 0, 3, 0, 1, 9])
        self.assertEqual([table.decomposition(character) for character in table.characters],
                         ["au", "AW", "v", None, None, None])
        self.assertEqual([table.atoms(character) for character in table.characters],
                         ["au", "auv", "v", "a", "u", "v"])

    def test_composite_of(self):
        table = example()
        found = {(one, other): table.composite_of(one, other) for one in "aAuvB" for other in "aAuvB"}
        self.assertEqual({pair: composite for pair, composite in found.items() if composite is not None},
                         {("a", "u"): "A"})
        self.assertIsNone(table.composite_of("A", "v"))
        single = Table({"a": 0, "A": 0}, decompositions={"A": "a"})
        self.assertIsNone(single.composite_of("a", "a"))

    def test_unknown_characters(self):
        table = example()
        for value in any_values() + ["b", "", "au", "AB", table, [table], {"a": table}]:
            for method in (table.class_of, table.decomposition, table.atoms):
                with self.assertRaises(errors.UnknownCharacter) as caught:
                    method(value)
                self.assertIs(caught.exception.value, value)
            for first, second in ((value, "a"), ("a", value), (value, ["another"])):
                with self.assertRaises(errors.UnknownCharacter) as caught:
                    table.composite_of(first, second)
                self.assertIs(caught.exception.value, value)

    def test_in(self):
        table = example()
        for character in "aAuvB":
            self.assertIs(character in table, True)
        for value in any_values() + ["b", "", "au", "AB", table, [table], ("a",)]:
            self.assertIs(value in table, False)

    def test_len(self):
        self.assertEqual(len(example()), 5)
        self.assertIs(type(len(example())), int)

    def test_equal_tables(self):
        table = example()
        self.assertTrue(table == table)
        self.assertTrue(table == example())
        self.assertFalse(table != example())
        self.assertTrue(Table({"a": 0}) == Table({"a": 0}, decompositions={}, excluded=""))
        self.assertTrue(Table({"a": 0, "A": 0}, decompositions={"A": "a"}, excluded="AA")
                        == Table({"A": 0, "a": 0}, decompositions={"A": "a"}, excluded="A"))

    def test_tables_that_differ_in_one_thing(self):
        tables = [
            Table({"a": 0, "A": 0, "u": 1}),
            Table({"a": 0, "A": 0, "u": 2}),
            Table({"a": 0, "A": 0, "v": 1}),
            Table({"a": 0, "A": 0, "u": 1, "v": 1}),
            Table({"a": 0, "A": 0, "u": 1}, decompositions={"A": "a"}),
            Table({"a": 0, "A": 0, "u": 1}, decompositions={"a": "A"}),
            Table({"a": 0, "A": 0, "u": 1}, decompositions={"A": "au"}),
            Table({"a": 0, "A": 0, "u": 1}, decompositions={"A": "au"}, excluded="A"),
        ]
        for one, other in itertools.permutations(tables, 2):
            self.assertTrue(one != other)
            self.assertFalse(one == other)

    def test_equal_to_no_other_object(self):
        class Equal:
            def __eq__(self, other):
                return True

        table = example()
        for value in any_values() + [str(table), table.characters, {"a": 0}, Equal()]:
            self.assertIs(table == value, False)
            self.assertIs(table != value, True)

    def test_arguments_are_copied_and_not_modified(self):
        classes = {"v": 2, "u": 1, "a": 0, "A": 0, "B": 0}
        decompositions = {"B": "Av", "A": "au"}
        table = Table(classes, decompositions=decompositions, excluded="BB")
        self.assertEqual(list(classes.items()), [("v", 2), ("u", 1), ("a", 0), ("A", 0), ("B", 0)])
        self.assertEqual(list(decompositions.items()), [("B", "Av"), ("A", "au")])
        classes["a"] = 7
        classes["z"] = 1
        del classes["u"]
        decompositions["A"] = "av"
        decompositions["B"] = 12
        self.assertEqual(table, example())
        self.assertEqual(str(table), str(example()))
        self.assertEqual((table.characters, table.atoms("B"), table.composite_of("a", "u")), ("ABauv", "auv", "A"))

    def test_the_order_of_the_keys_has_no_effect(self):
        rows = [("a", 0), ("u", 1), ("v", 2), ("A", 0), ("B", 0)]
        for order in itertools.permutations(rows):
            for pairs in ([("A", "au"), ("B", "Av")], [("B", "Av"), ("A", "au")]):
                table = Table(dict(order), decompositions=dict(pairs), excluded="B")
                self.assertEqual(table, example())
                self.assertEqual(str(table), str(example()))
                self.assertEqual((table.characters, table.composites, table.marks), ("ABauv", "AB", "uv"))

    def test_arguments_by_name(self):
        self.assertEqual(Table(excluded="A", decompositions={"A": "a"}, classes={"a": 0, "A": 0}).excluded, "A")
        table = example()
        self.assertEqual(table.composite_of(second="u", first="a"), "A")
        self.assertEqual([table.class_of(character="u"), table.decomposition(character="A")], [1, "au"])
        self.assertEqual(table.atoms(character="B"), "auv")
        with self.assertRaises(TypeError):
            Table({"a": 0}, {})
