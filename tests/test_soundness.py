import unittest

from canontext import errors
from canontext.soundness import decomposed, is_step, is_unsound_pair, judge, rules
from canontext.tables import Table
from tests.values import any_values, example, small_tables, steps_from, texts_up_to, unsound


def bubbled(table, text):
    """The decomposed form, by exchanging neighbors until none is out of order."""
    atoms = list("".join([table.atoms(character) for character in text]))
    for _ in atoms:
        for at in range(len(atoms) - 1):
            if table.class_of(atoms[at]) > table.class_of(atoms[at + 1]) > 0:
                atoms[at:at + 2] = [atoms[at + 1], atoms[at]]
    return "".join(atoms)


def long_table():
    """A table with a base and a mark of eight atoms each."""
    return Table.from_text("a 0\nu 1\nv 2\nA 0 = av\nB 0 = Au\nC 0 = BB\nD 0 = Cu\nE 0 = Du\n"
                           "W 1 = uv\nX 1 = WW\nZ 3 = XX")


class RulesTest(unittest.TestCase):
    def test_rules_in_order(self):
        self.assertEqual(rules(example()), [("A", "au"), ("B", "Av"), ("uv", "vu")])
        table = Table({"v": 2, "u": 1, "b": 0, "Z": 1, "Y": 2, "a": 0, "c": 1}, decompositions={"b": "a", "Z": "vc"})
        self.assertEqual(rules(table), [
            ("Z", "vc"), ("b", "a"), ("YZ", "ZY"), ("Yc", "cY"), ("Yu", "uY"), ("Zv", "vZ"), ("cv", "vc"), ("uv", "vu"),
        ])

    def test_without_rules(self):
        self.assertEqual(rules(Table({"a": 0, "u": 4, "v": 4})), [])

    def test_every_pair_of_many_marks(self):
        table = Table({letter: 1 + at // 4 for at, letter in enumerate("abcdefghijklmnopqrstuvwxyzABCD")})
        marks = sorted("abcdefghijklmnopqrstuvwxyzABCD")
        expected = [(c + b, b + c) for c in marks for b in marks if c < b and table.class_of(c) != table.class_of(b)]
        self.assertEqual(rules(table), expected)

    def test_lists_are_new(self):
        table = example()
        rules(table).clear()
        self.assertEqual(len(rules(table)), 3)

    def test_wrong_table(self):
        for value in any_values() + ["", "a"]:
            with self.assertRaises(errors.InvalidTable) as caught:
                rules(value)
            self.assertIs(caught.exception.value, value)


class StepTest(unittest.TestCase):
    def test_steps(self):
        table = example()
        for first, second in (("A", "au"), ("aAa", "aaua"), ("uv", "vu"), ("Auv", "Avu"), ("B", "Av"), ("uAv", "uB")):
            self.assertIs(is_step(table, first, second), True)
            self.assertIs(is_step(table, second, first), True)

    def test_no_steps(self):
        table = example()
        for first, second in (
            ("", ""), ("A", "A"), ("", "A"), ("A", "a"), ("B", "auv"), ("AA", "auau"), ("uvuv", "vuvu"), ("au", "ua"),
            ("uu", "uu"), ("uvu", "uuuv"), ("Au", "auv"), ("aA", "aau" + "a"), ("a", "v"), ("uav", "vau"),
        ):
            self.assertIs(is_step(table, first, second), False)
            self.assertIs(is_step(table, second, first), False)

    def test_marks_that_are_composites_change_places_too(self):
        self.assertIs(is_step(unsound(), "Wv", "vW"), True)
        self.assertIs(is_step(unsound(), "Wu", "uW"), False)

    def test_exactly_the_replaced_texts(self):
        for table in small_tables()[::3]:
            texts = texts_up_to(table, 3)
            for first in texts:
                reached = steps_from(table, first)
                self.assertEqual({second for second in texts if is_step(table, first, second)},
                                 {second for second in reached if len(second) <= 3})
                for second in reached:
                    self.assertIs(is_step(table, first, second), True)

    def test_texts_of_sixty_characters(self):
        table = example()
        for start in ("", "a" * 20, "uv" * 10):
            for end in ("", "a" * 20, "A" * 38):
                first = (start + "A" + end)[:59]
                self.assertIs(is_step(table, first, first.replace("A", "au", 1)), True)
        self.assertIs(is_step(table, "a" * 58 + "uv", "a" * 58 + "vu"), True)
        self.assertIs(is_step(table, "uv" + "a" * 58, "vu" + "a" * 57 + "A"), False)

    def test_wrong_arguments_in_order(self):
        table = example()
        long = "a" * 61
        for value in any_values() + [long, "ab", table]:
            with self.assertRaises(errors.InvalidText) as caught:
                is_step(table, value, "z")
            self.assertIs(caught.exception.value, value)
            with self.assertRaises(errors.InvalidText) as caught:
                is_step(table, "a", value)
            self.assertIs(caught.exception.value, value)
            if value is not table:
                with self.assertRaises(errors.InvalidTable) as caught:
                    is_step(value, value, value)
                self.assertIs(caught.exception.value, value)
        with self.assertRaises(errors.InvalidText) as caught:
            is_step(table, "a" * 60, long)
        self.assertIs(caught.exception.value, long)

    def test_arguments_by_name(self):
        self.assertIs(is_step(second="au", first="A", table=example()), True)


class DecomposedTest(unittest.TestCase):
    def test_decomposed(self):
        table = example()
        for text, form in (("", ""), ("B", "auv"), ("vuvu", "uuvv"), ("avuAvBu", "auvauvauuv"), ("vaau", "vaau")):
            self.assertEqual(decomposed(table, text), form)

    def test_marks_of_one_class_keep_their_order(self):
        table = Table({"a": 0, "x": 2, "v": 2, "u": 1, "t": 1})
        self.assertEqual(decomposed(table, "xuvtaxvxut"), "utxvautxvx")

    def test_tables_that_are_not_sound(self):
        self.assertEqual([decomposed(unsound(), "Wv"), decomposed(unsound(), "vW")], ["uxv", "uvx"])

    def test_marks_that_contain_bases(self):
        table = Table({"a": 0, "u": 1, "v": 2, "W": 3}, decompositions={"W": "va"})
        self.assertEqual(decomposed(table, "WuWvu"), "vauvauv")

    def test_as_by_exchanging_neighbors(self):
        for table in small_tables():
            for text in texts_up_to(table, 3):
                self.assertEqual(decomposed(table, text), bubbled(table, text))

    def test_sixty_characters_of_eight_atoms(self):
        table = long_table()
        self.assertEqual((table.atoms("E"), table.atoms("Z")), ("avuavuuu", "uvuvuvuv"))
        self.assertEqual(decomposed(table, "E" * 60), "auvauuuv" * 60)
        self.assertEqual(decomposed(table, "Z" * 60), "u" * 240 + "v" * 240)
        self.assertEqual(decomposed(table, "aZ" * 30), ("a" + "u" * 4 + "v" * 4) * 30)

    def test_wrong_arguments(self):
        table = example()
        for value in any_values() + ["a" * 61, "B" * 61, "az", table]:
            with self.assertRaises(errors.InvalidText) as caught:
                decomposed(table, value)
            self.assertIs(caught.exception.value, value)
            if value is not table:
                with self.assertRaises(errors.InvalidTable) as caught:
                    decomposed(value, value)
                self.assertIs(caught.exception.value, value)
        form = decomposed(table, "B" * 60)
        self.assertEqual(len(form), 180)
        with self.assertRaises(errors.InvalidText):
            decomposed(table, form)

    def test_arguments_by_name(self):
        self.assertEqual(decomposed(text="B", table=example()), "auv")


class SoundnessTest(unittest.TestCase):
    def test_example_of_point_34(self):
        table = unsound()
        self.assertEqual([judge(table), decomposed(table, "Wv"), decomposed(table, "vW")], [("W", "v"), "uxv", "uvx"])

    def test_sound_tables(self):
        for table in (example(), Table({"a": 0}), Table({"u": 1, "v": 2}),
                      Table({"u": 1, "v": 2, "W": 1}, decompositions={"W": "uu"})):
            self.assertIsNone(judge(table))

    def test_the_first_pair_in_order(self):
        table = Table({"u": 1, "v": 3, "w": 3, "x": 3, "Y": 1, "Z": 2}, decompositions={"Y": "ww", "Z": "vv"})
        for first, pair in (("Yw", False), ("Yv", True), ("Yx", True), ("YZ", True), ("Zv", False), ("Zw", True)):
            self.assertIs(is_unsound_pair(table, tuple(first)), pair)
        self.assertEqual(judge(table), ("Y", "Z"))
        table = Table({"u": 1, "v": 3, "w": 3, "x": 3, "Y": 1}, decompositions={"Y": "vv"})
        self.assertEqual(judge(table), ("Y", "w"))

    def test_marks_that_contain_bases_are_not_sound(self):
        table = Table({"a": 0, "u": 1, "v": 2, "W": 1}, decompositions={"W": "ua"})
        self.assertEqual(judge(table), ("W", "v"))

    def test_is_unsound_pair(self):
        table = unsound()
        self.assertIs(is_unsound_pair(table, ("W", "v")), True)
        self.assertIs(is_unsound_pair(table, ("v", "W")), True)
        self.assertIs(is_unsound_pair(table, judge(table)), True)
        for value in (("W", "x"), ("W", "u"), ("u", "v"), ("W", "W"), ["W", "v"], ("W", "v", "v"), ("W",), "Wv",
                      ("W", "z"), ("Wv", ""), ("W", ["v"]), ({}, "v"), (table, table), {"W": "v"}, ("Wv", "vW")):
            self.assertIs(is_unsound_pair(table, value), False, value)
        for value in any_values() + [table, ("W", table)]:
            self.assertIs(is_unsound_pair(table, value), False)

    def test_bases_are_no_unsound_pair(self):
        table = Table({"a": 0, "b": 0, "u": 1, "W": 2}, decompositions={"W": "ua"})
        for value in (("a", "b"), ("a", "u"), ("u", "a"), ("W", "a")):
            self.assertIs(is_unsound_pair(table, value), False)
        self.assertIs(is_unsound_pair(table, ("u", "W")), True)

    def test_all_pairs_agree_with_judge(self):
        for table in small_tables():
            pairs = [(c, b) for c in table.characters for b in table.characters]
            found = [pair for pair in pairs if is_unsound_pair(table, pair)]
            self.assertEqual(judge(table), found[0] if found else None)
            self.assertEqual(sorted(found), sorted([pair[::-1] for pair in found]))

    def test_first_guarantee(self):
        judged = [judge(table) for table in small_tables()]
        self.assertIn(None, judged)
        self.assertTrue(any(judged))
        for table, pair in zip(small_tables(), judged):
            if pair is None:
                for text in texts_up_to(table, 3):
                    for other in steps_from(table, text):
                        self.assertEqual(decomposed(table, other), decomposed(table, text))
            else:
                one, other = "".join(pair), "".join(pair[::-1])
                self.assertLess(pair[0], pair[1])
                self.assertIs(is_step(table, one, other), True)
                self.assertNotEqual(decomposed(table, one), decomposed(table, other))

    def test_equal_tables_give_equal_results(self):
        for table in small_tables():
            other = Table.from_text("\n".join(reversed(str(table).split("\n"))))
            self.assertEqual((judge(table), rules(table)), (judge(other), rules(other)))

    def test_wrong_table(self):
        for value in any_values():
            with self.assertRaises(errors.InvalidTable) as caught:
                judge(value)
            self.assertIs(caught.exception.value, value)
            with self.assertRaises(errors.InvalidTable) as caught:
                is_unsound_pair(value, ("W", "v"))
            self.assertIs(caught.exception.value, value)

    def test_arguments_by_name(self):
        self.assertEqual(judge(table=unsound()), ("W", "v"))
        self.assertIs(is_unsound_pair(value=("W", "v"), table=unsound()), True)
        self.assertEqual(rules(table=Table({"a": 0})), [])
