import itertools
import random

from canontext import errors
from canontext.composing import composed, formed
from canontext.errors import TextError
from canontext.revisions import changed_text, extends, is_changed_text, spelled, unspelled
from canontext.soundness import judge
from canontext.tables import Table
from canontext.variants import Variants
from tests.cases import ErrorCase
from tests.values import any_values, equivalent_texts, example, sound_tables, texts_up_to, unsound


def old_example():
    """The old table of the example behind point 126."""
    return Table({"a": 0, "u": 1, "v": 2, "A": 0}, decompositions={"A": "au"})


def new_example():
    """The new table of the example behind point 126."""
    return Table({"a": 0, "u": 1, "v": 2, "A": 0, "B": 0}, decompositions={"A": "au", "B": "av"})


def part_of(table, characters):
    """The table of some characters of a table, or None if others occur in their decompositions."""
    found = [line for line in str(table).split("\n") if line[0] in characters]
    try:
        return Table.from_text("\n".join(found))
    except TextError:
        return None


def revisions():
    """Pairs of a sound table and one that it extends."""
    pairs = []
    for table in sound_tables() + [
        Table.from_text("a 0\nb 0\nu 1\nv 2\nA 0 = au\nB 0 = Av excluded\nC 0 = Bb\nD 0 = ab\nE 0 = Du"),
        Table.from_text("a 0\nu 1\nv 2\nA 0 = av\nB 0 = au\nC 0 = Bv\nD 0 = Au\nE 0 = C"),
    ]:
        for count in range(1, len(table) + 1):
            for characters in itertools.combinations(table.characters, count):
                old = part_of(table, characters)
                if old is not None:
                    pairs.append((table, old))
    return pairs


class ExtendsTest(ErrorCase):
    def test_example_of_point_126(self):
        old, new = old_example(), new_example()
        self.assertEqual([extends(new, old), is_changed_text(new, old, "av"), spelled(old, "auv", "Av"),
                          unspelled(old, "Auv")], [True, True, "Av", "a"])

    def test_extends(self):
        old = old_example()
        self.assertIs(extends(old, old), True)
        self.assertIs(extends(old, old_example()), True)
        self.assertIs(extends(old, new_example()), False)
        for text, expected in (
            ("a 0\nu 1\nv 2\nA 0 = au\nb 0", True),
            ("a 0\nu 1\nv 2\nA 0 = au\nB 0 = Av excluded", True),
            ("a 0\nu 1\nv 3\nA 0 = au", False),
            ("a 0\nu 1\nv 2\nA 0 = av", False),
            ("a 0\nu 1\nv 2\nA 0 = a", False),
            ("a 0\nu 1\nv 2\nA 0", False),
            ("a 0\nu 1\nv 2\nA 0 = au excluded", False),
            ("a 0\nu 1\nA 0 = au", False),
            ("a 0\nb 0\nu 1\nv 2\nA 0 = au\nB 0 = bu", True),
            ("b 0\na 0 = b\nu 1\nv 2\nA 0 = au", False),
        ):
            self.assertIs(extends(Table.from_text(text), old), expected, text)
        excluded = example()
        self.assertIs(extends(excluded, old), True)
        self.assertIs(extends(Table.from_text(str(excluded).replace(" excluded", "")), excluded), False)

    def test_tables_that_are_not_sound(self):
        self.assertIs(extends(unsound(), unsound()), True)
        self.assertIs(extends(unsound(), Table({"u": 1, "v": 2})), True)
        self.assertIs(extends(Table({"u": 1, "v": 2}), unsound()), False)

    def test_all_parts_of_tables(self):
        for new, old in revisions():
            self.assertIs(extends(new, old), True)
            self.assertIs(extends(old, new), new == old)

    def test_errors(self):
        for value in any_values() + ["a", [example()]]:
            self.expect(errors.InvalidTable, [value], extends, value, None)
            self.expect(errors.InvalidTable, [value], extends, example(), value)
            self.expect(errors.InvalidTable, [value], extends, old=value, new=example())


class ChangedTextTest(ErrorCase):
    def test_all_short_texts(self):
        changes = keeps = 0
        for new, old in revisions():
            found = changed_text(new, old)
            texts = texts_up_to(old, 3)
            changed = [text for text in texts if composed(new, text) != composed(old, text)]
            self.assertTrue(found is not None or not changed, (str(new), str(old)))
            if found is not None:
                self.assertIs(type(found), str)
                self.assertNotEqual(composed(new, found), composed(old, found))
                self.assertIs(is_changed_text(new, old, found), True)
            changes += found is not None
            keeps += found is None
            for text in texts:
                self.assertIs(is_changed_text(new, old, text), text in changed)
        self.assertGreater(min(changes, keeps), 30)

    def test_if_the_new_table_is_sound_the_old_one_is(self):
        for new, old in revisions():
            self.assertIsNone(judge(old))

    def test_as_point_125_says(self):
        for new, old in revisions():
            added = [character for character in formed(new)
                     if character not in old and all(atom in old for atom in new.atoms(character))]
            self.assertIs(changed_text(new, old) is None, not added)

    def test_values_that_are_none(self):
        old, new = old_example(), new_example()
        for value in any_values() + ["B", "au", "", "avB", "a v", ["av"], ("av",), old, "auv"]:
            self.assertIs(is_changed_text(new, old, value), False, value)
        for value in ("av", "avu" * 20, "aav", "Aav"):
            self.assertIs(is_changed_text(new, old, value), composed(new, value) != composed(old, value))
        self.assertIs(is_changed_text(value="av", old=old, new=new), True)
        self.assertEqual(changed_text(old=old, new=new), "av")

    def test_texts_of_any_length(self):
        old, new = old_example(), new_example()
        self.assertIs(is_changed_text(new, old, "auv" * 1333), False)
        self.assertIs(is_changed_text(new, old, "auv" * 1332 + "av"), True)
        self.assertIs(is_changed_text(new, old, "a" + "v" * 3999), True)
        self.assertIs(is_changed_text(new, old, "u" * 4000), False)

    def test_errors_in_order(self):
        old, new, wrong = old_example(), new_example(), unsound()
        for function, more in ((changed_text, []), (is_changed_text, [None])):
            for value in any_values() + ["a", [old]]:
                self.expect(errors.InvalidTable, [value], function, value, None, *more)
                self.expect(errors.InvalidTable, [value], function, wrong, value, *more)
            self.expect(errors.NotExtended, [old, new], function, old, new, *more)
            self.expect(errors.NotExtended, [wrong, old], function, wrong, old, *more)
            self.expect(errors.NotExtended, [old, wrong], function, old, wrong, *more)
            for one in (wrong, Table({"u": 1, "v": 2})):
                with self.assertRaises(errors.Unsound) as caught:
                    function(wrong, one, *more)
                self.assertEqual((caught.exception.first, caught.exception.second), ("W", "v"))
        try:
            changed_text(old, new)
        except errors.NotExtended as error:
            self.assertIs(error.new, old)
            self.assertIs(error.old, new)


class SpelledTest(ErrorCase):
    def test_the_first_of_all_equivalent_texts(self):
        chance = random.Random(41)
        none = 0
        for table in sound_tables():
            for texts in equivalent_texts(table, 2) + equivalent_texts(table, 3)[-10:]:
                for _ in range(4):
                    listed = chance.sample(table.characters, chance.randint(0, len(table)))
                    found = [text for text in texts if set(text) <= set(listed)]
                    expected = found[0] if found else None
                    none += expected is None
                    for text in (texts[0], texts[-1]):
                        self.assertEqual(spelled(table, text, "".join(listed)), expected)
        self.assertGreater(none, 100)

    def test_the_empty_string(self):
        table = old_example()
        self.assertEqual([spelled(table, "", ""), spelled(table, "a", ""), spelled(table, "", "Aa")], ["", None, ""])
        self.assertEqual(unspelled(table, ""), "A")

    def test_very_many_variants(self):
        table = Table.from_text("a 0\nA 0 = a\nB 0 = a\nC 0 = AB\nD 0 = CC")
        text = "D" * 60
        self.assertGreater(Variants(table, text).variant_count, 10 ** 100)
        for characters, expected in (("a", "a" * 240), ("A", "A" * 240), ("aB", "B" * 240), ("D", text),
                                     ("Ca", "C" * 120), ("", None), ("DCBAa", "A" * 240)):
            self.assertEqual(spelled(table, text, characters), expected)
        table = Table({"u": 1, "v": 2, "x": 2, "U": 1}, decompositions={"U": "uu"})
        self.assertEqual(spelled(table, "uvx" * 15 + "u", "xUv"), "U" * 8 + "vx" * 15)
        self.assertIsNone(spelled(table, "uvx" * 15, "xUv"))
        self.assertIsNone(spelled(table, "uvx" * 15, "xuU"))

    def test_unspelled(self):
        for table in sound_tables():
            for count in range(len(table) + 1):
                for listed in itertools.combinations(table.characters[::-1], count):
                    characters = "".join(listed)
                    alone = [one for one in table.characters if spelled(table, one, characters) is None]
                    self.assertEqual(unspelled(table, characters), alone[0] if alone else None)
                    if not alone:
                        for text in texts_up_to(table, 2):
                            self.assertIsNotNone(spelled(table, text, characters))

    def test_wrong_characters(self):
        table = old_example()
        for value in any_values() + ["b", "aa", "aua", "A a", "auvAa", ["a"], ("a", "u"), {"a": 1}, table, "a" * 4000]:
            self.expect(errors.InvalidCharacters, [value], spelled, table, "a", value)
            self.expect(errors.InvalidCharacters, [value], unspelled, table, value)
            self.expect(errors.InvalidCharacters, [value], unspelled, characters=value, table=table)

    def test_errors_in_order(self):
        table = old_example()
        for value in any_values() + ["a", [table]]:
            self.expect(errors.InvalidTable, [value], spelled, value, None, None)
            self.expect(errors.InvalidTable, [value], unspelled, value, None)
        for call in (lambda: spelled(unsound(), None, None), lambda: unspelled(unsound(), None)):
            with self.assertRaises(errors.Unsound) as caught:
                call()
            self.assertEqual((caught.exception.first, caught.exception.second), ("W", "v"))
        for value in any_values() + ["b", "a" * 61, table]:
            self.expect(errors.InvalidText, [value], spelled, table, value, None)
        many = Table({"a": 0, **{str(rank): rank for rank in range(1, 10)}})
        text = "4444" + "3333" + "2222" + "1567"
        self.assertEqual(spelled(many, text, "7654321"), "1222233334444567")
        self.expect(errors.InvalidCharacters, ["11"], spelled, many, text + "a", "11")
        for characters in ("", "1", "a123456789"):
            with self.assertRaises(errors.TooMany) as caught:
                spelled(many, text + "a", characters)
            self.assertEqual(caught.exception.total, 2001)
        self.assertEqual(spelled(characters="Av", text="auv", table=table), "Av")
