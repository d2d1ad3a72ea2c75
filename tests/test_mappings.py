import copy
import itertools
import random

from canontext import errors
from canontext.forms import are_equivalent
from canontext.mappings import Mapping, find_break, is_break
from canontext.soundness import decomposed, judge, rules
from canontext.tables import Table
from tests.cases import ErrorCase
from tests.values import any_values, example, small_tables, sound_tables, steps_from, texts_up_to, unsound


def example_of_mappings():
    """The table of the example behind point 126."""
    return Table({"a": 0, "u": 1, "v": 2, "A": 0}, decompositions={"A": "au"})


def swapping(image="av"):
    """A mapping that exchanges two marks."""
    return Mapping(example_of_mappings(), example_of_mappings(), {"a": "a", "u": "v", "v": "u", "A": image})


def random_mapping(chance, source, target):
    """A mapping with random images, some of which fit those of atoms."""
    images = {}
    for character in sorted(source.characters, key=lambda one: len(source.atoms(one))):
        parts = source.decomposition(character)
        if parts is not None and all(part in images for part in parts) and chance.random() < 0.7:
            images[character] = "".join([images[part] for part in parts])[:4]
        else:
            images[character] = "".join(chance.choices(target.characters, k=chance.choice([0, 1, 1, 1, 2, 4])))
    return Mapping(source, target, images)


def cases(count):
    """Random mappings between small tables, those that come first sound or not, those that come second sound."""
    chance = random.Random(31)
    sources = small_tables() + sound_tables()
    for _ in range(count):
        yield random_mapping(chance, chance.choice(sources), chance.choice(sound_tables()))


class MappingTest(ErrorCase):
    def test_example_of_point_126(self):
        mapping = swapping()
        old = mapping.source
        self.assertEqual([find_break(mapping), mapping("Av"), mapping.then(mapping)("A"), find_break(
            Mapping(old, old, {"a": "a", "u": "v", "v": "u", "A": "A"}))], [None, "avu", "au", ("A", "au")])

    def test_images_of_texts(self):
        for mapping in cases(60):
            images = mapping.images()
            for text in texts_up_to(mapping.source, 2):
                self.assertEqual(mapping(text), "".join([images[character] for character in text]))
        mapping = Mapping(example_of_mappings(), Table({"x": 0}), {"a": "", "u": "xxxx", "v": "x", "A": "xx"})
        self.assertEqual([mapping(""), mapping("a"), mapping("uAv"), mapping("u" * 60)],
                         ["", "", "x" * 7, "x" * 240])

    def test_wrong_texts(self):
        mapping = swapping()
        for value in any_values() + ["b", "a" * 61, "a?", mapping, mapping.source]:
            self.expect(errors.InvalidText, [value], mapping, value)
            self.expect(errors.InvalidText, [value], mapping, text=value)
        self.assertEqual(mapping("uvA"), "vuav")

    def test_the_images(self):
        mapping = swapping()
        self.assertEqual(list(mapping.images().items()), [("A", "av"), ("a", "a"), ("u", "v"), ("v", "u")])
        mapping.images().clear()
        self.assertEqual(len(mapping.images()), 4)
        self.assertIsNot(mapping.images(), mapping.images())
        self.assertEqual(Mapping(mapping.source, mapping.target, mapping.images()), mapping)

    def test_arguments_are_copied_and_not_modified(self):
        images = {"v": "u", "u": "v", "a": "a", "A": "av"}
        kept = dict(images)
        mapping = Mapping(example_of_mappings(), example_of_mappings(), images)
        self.assertEqual(list(images.items()), list(kept.items()))
        images["A"] = "u"
        images.pop("a")
        self.assertEqual([mapping.images(), mapping("Aa"), mapping == swapping()], [kept, "ava", True])

    def test_source_and_target(self):
        source, target = example_of_mappings(), Table({"x": 0})
        mapping = Mapping(images={"a": "", "u": "", "v": "x", "A": ""}, target=target, source=source)
        self.assertEqual([mapping.source, mapping.target], [source, target])

    def test_tables_that_are_not_sound(self):
        table = unsound()
        mapping = Mapping(table, table, {character: character for character in table.characters})
        self.assertEqual([mapping("Wv"), mapping.then(mapping)("vW")], ["Wv", "vW"])

    def test_equal(self):
        mapping = swapping()
        self.assertIs(mapping == swapping(), True)
        self.assertIs(mapping != swapping(), False)
        images = mapping.images()
        more = Table({"a": 0, "u": 1, "v": 2, "A": 0, "b": 0}, decompositions={"A": "au"})
        other = Table({"a": 0, "u": 1, "v": 2, "A": 0})
        others = [swapping("au"), swapping("A"), Mapping(mapping.source, more, images),
                  Mapping(mapping.source, other, images), Mapping(other, mapping.source, images), images,
                  mapping.source]
        for value in others + any_values():
            self.assertIs(mapping == value, False)
            self.assertIs(mapping != value, True)

    def test_wrong_tables(self):
        table = example_of_mappings()
        for value in any_values() + ["a", [table]]:
            self.expect(errors.InvalidTable, [value], Mapping, value, None, None)
            self.expect(errors.InvalidTable, [value], Mapping, table, value, None)
            self.expect(errors.InvalidTable, [value], Mapping, unsound(), value, {})

    def test_wrong_images(self):
        table = example_of_mappings()
        good = swapping().images()
        wrong = [{}, {"a": "a"}, {**good, "b": "a"}, {**good, "": ""}, {**good, None: "a"}, {**good, 0: "a"},
                 {character: good[character] for character in "Aau"}, {**good, "A": "auauv"}, {**good, "A": "b"},
                 {**good, "A": "a b"}, {**good, "A": None}, {**good, "A": ["a"]}, {**good, "A": 0},
                 {**good, "A": ("a",)},
                 {**good, "v": "?"}, {("a" if key == "u" else key): "a" for key in good}, list(good.items()),
                 {(key,): good[key] for key in good}, list(good), table, swapping(), {**good, "A": table},
                 {("b" if key == "u" else key): good[key] for key in good}, "Aauv"]
        for value in wrong + any_values():
            kept = copy.copy(value)
            self.expect(errors.InvalidImages, [value], Mapping, table, table, value)
            if isinstance(value, dict):
                self.assertEqual(value, kept)
        for image in ("", "a", "auvA", "uuuu"):
            self.assertEqual(Mapping(table, table, {**good, "A": image})("A"), image)
        self.expect(errors.InvalidImages, [good], Mapping, table, Table({"a": 0}), good)
        self.expect(errors.InvalidImages, [good], Mapping, Table({"a": 0}), table, good)


class ThenTest(ErrorCase):
    def test_one_behind_the_other(self):
        chance = random.Random(32)
        for first in cases(60):
            second = random_mapping(chance, first.target, chance.choice(small_tables()))
            both = first.then(second)
            self.assertIs(type(both), Mapping)
            self.assertEqual([both.source, both.target], [first.source, second.target])
            for text in texts_up_to(first.source, 2):
                self.assertEqual(both(text), second(first(text)))
            self.assertEqual(both, first.then(other=second))

    def test_images_of_any_length(self):
        table = Table({"a": 0, "b": 0})
        mapping = Mapping(table, table, {"a": "abab", "b": ""})
        other = Mapping(table, table, {"a": "aaaa", "b": "b"})
        both = other.then(other).then(other)
        self.assertEqual([both("a"), both("b"), both.images()], ["a" * 64, "b", {"a": "a" * 64, "b": "b"}])
        self.assertEqual(both("a" * 60), "a" * 3840)
        self.assertEqual(mapping.then(mapping).images(), {"a": "abababab", "b": ""})
        images = both.images()
        self.expect(errors.InvalidImages, [images], Mapping, table, table, images)
        same = Mapping(table, table, {"a": "a", "b": "b"})
        self.assertEqual([both.then(same) == both, same.then(both) == both, both == other.then(other.then(other))],
                         [True, True, True])
        self.assertIs(other.then(other) == both, False)

    def test_mappings_do_not_change(self):
        mapping = swapping()
        twice = mapping.then(mapping)
        self.assertEqual([mapping, twice("uvA")], [swapping(), "uvau"])

    def test_errors(self):
        mapping = swapping()
        for value in any_values() + [mapping.images(), mapping.source]:
            self.expect(errors.InvalidMapping, [value], mapping.then, value)
        source = Table({"a": 0, "u": 1, "v": 2, "A": 0}, decompositions={"A": "au"}, excluded="A")
        other = Mapping(source, source, mapping.images())
        self.expect(errors.Mismatch, [mapping, other], mapping.then, other)
        self.expect(errors.Mismatch, [other, mapping], other.then, mapping)
        self.assertEqual(mapping.then(swapping())("A"), "au")


class BreakTest(ErrorCase):
    def test_the_first_rule(self):
        kept = 0
        for mapping in cases(300):
            found = find_break(mapping)
            broken = [
                (left, right) for left, right in rules(mapping.source)
                if decomposed(mapping.target, mapping(left)) != decomposed(mapping.target, mapping(right))
            ]
            self.assertEqual(found, broken[0] if broken else None)
            if found is None:
                kept += 1
                for text in texts_up_to(mapping.source, 2):
                    for other in steps_from(mapping.source, text):
                        self.assertTrue(are_equivalent(mapping.target, mapping(text), mapping(other)))
            elif judge(mapping.source) is None:
                self.assertIs(is_break(mapping, found), True)
                self.assertIs(is_break(mapping, found[::-1]), True)
                self.assertIs(is_break(mapping, list(found)), False)
        self.assertGreater(kept, 30)

    def test_all_pairs_of_short_texts(self):
        for mapping in itertools.islice(cases(200), 0, None, 10):
            source, target = mapping.source, mapping.target
            if judge(source) is not None:
                continue
            texts = texts_up_to(source, 2)
            for one, other in itertools.product(texts, repeat=2):
                broken = decomposed(source, one) == decomposed(source, other) and not are_equivalent(
                    target, mapping(one), mapping(other))
                self.assertIs(is_break(mapping, (one, other)), broken)
                self.assertTrue(not broken or find_break(mapping) is not None)

    def test_both_keep_equivalence(self):
        chance = random.Random(33)
        kept = 0
        for first in cases(400):
            if find_break(first) is None:
                second = random_mapping(chance, first.target, chance.choice(sound_tables()))
                if find_break(second) is None:
                    kept += 1
                    self.assertIsNone(find_break(first.then(second)))
        self.assertGreater(kept, 10)

    def test_values_that_are_none(self):
        mapping = swapping("A")
        wrong = [("A", "A"), ("a", "u"), ("A", "av"), ["A", "au"], ("A",), ("A", "au", ""), ("A", "ab"), ("A", None),
                 (None, "au"), ("A", ["au"]), ("A", "a u"), "Au", {"A": "au"}, mapping, ("uv", "vu"), ("", ""), ()]
        for value in wrong + any_values():
            self.assertIs(is_break(mapping, value), False, value)
        for value in (("A", "au"), ("au", "A"), ("vA", "vau"), ("Av", "avu")):
            self.assertIs(is_break(mapping, value), True)
        self.assertIs(is_break(value=("A", "au"), mapping=mapping), True)

    def test_texts_of_any_length(self):
        mapping = swapping("A")
        self.assertIs(is_break(mapping, ("A" * 4000, "A" * 3999 + "au")), True)
        self.assertIs(is_break(mapping, ("A" * 4000, "A" * 3999 + "av")), False)
        self.assertIs(is_break(swapping(), ("A" * 4000, "au" * 4000)), False)
        double = Mapping(mapping.source, mapping.source, {"a": "aaaa", "u": "uuuu", "v": "", "A": "auuu"})
        both = double.then(double).then(double)
        self.assertEqual(find_break(both), ("A", "au"))
        self.assertIs(is_break(both, ("A" * 100, "au" * 100)), True)

    def test_what_is_no_mapping(self):
        for value in any_values() + [example(), swapping().images()]:
            self.expect(errors.InvalidMapping, [value], find_break, value)
            self.expect(errors.InvalidMapping, [value], find_break, mapping=value)
            self.expect(errors.InvalidMapping, [value], is_break, value, None)

    def test_tables_that_are_not_sound(self):
        good = Table({"a": 0})
        first = Table.from_text("u 1\nv 2\nx 2\nW 1 = xu")
        second = Table.from_text("r 1\ns 2\nt 2\nR 1 = ts")
        second = Table.from_text(str(second).replace("R 1 = ts", "R 1 = tr"))
        self.assertEqual([judge(first), judge(second)], [("W", "v"), ("R", "s")])

        def unsound_pair(function, *values):
            with self.assertRaises(errors.Unsound) as caught:
                function(*values)
            return caught.exception.first, caught.exception.second

        empty = {"u": "", "v": "", "x": "", "W": ""}
        self.assertIsNone(find_break(Mapping(first, good, empty)))
        self.assertEqual(find_break(Mapping(first, good, {**empty, "W": "a"})), ("W", "xu"))
        self.assertEqual(unsound_pair(is_break, Mapping(first, good, empty), None), ("W", "v"))
        self.assertEqual(unsound_pair(is_break, Mapping(first, second, empty), None), ("W", "v"))
        self.assertEqual(unsound_pair(find_break, Mapping(first, second, empty)), ("R", "s"))
        self.assertEqual(unsound_pair(find_break, Mapping(good, second, {"a": ""})), ("R", "s"))
        self.assertEqual(unsound_pair(is_break, Mapping(good, second, {"a": ""}), None), ("R", "s"))
