import copy
import itertools
import math
import unittest

from canontext import errors
from canontext.composing import composed
from canontext.rests import beginnings, rest_after, rests
from canontext.soundness import decomposed
from canontext.tables import Table
from canontext.variants import Variants
from tests.values import any_values, equivalent_texts, example, no_integers, sound_tables


def example_of_variants():
    """The table of the example behind point 66."""
    return Table({"b": 0, "m": 1, "n": 2, "B": 0}, decompositions={"B": "bm"})


def two_names():
    """A table of a base and a composite of it: each of them may stand for the other one."""
    return Table({"a": 0, "A": 0}, decompositions={"A": "a"})


def small_variants():
    """Variants of texts over small tables with the list of them that steps lead to, in ascending order."""
    for table in sound_tables():
        for texts in equivalent_texts(table, 2) + equivalent_texts(table, 3)[-20:]:
            yield table, texts, Variants(table, texts[-1])


class VariantsTest(unittest.TestCase):
    def test_example_of_point_66(self):
        variants = Variants(example_of_variants(), "bnm")
        self.assertEqual([variants.variant_count, list(variants.each(start=1)), variants.index_of("Bn"),
                          variants.lengths(), variants.distances()["mn"]],
                         [3, ["bmn", "bnm"], 0, {2: 1, 3: 2}, 2])

    def test_exactly_the_texts_to_which_steps_lead_in_order(self):
        for table, texts, variants in small_variants():
            self.assertEqual(variants.variant_count, len(texts))
            self.assertEqual(list(variants.each()), texts)
            self.assertEqual([variants[index] for index in range(len(texts))], texts)
            self.assertEqual([variants.index_of(text) for text in texts], list(range(len(texts))))
            self.assertNotIn(False, [text in variants for text in texts])
            self.assertIn(composed(table, texts[0]), variants)
            self.assertIn(decomposed(table, texts[0]), variants)

    def test_of_all_equivalent_texts(self):
        for table in sound_tables():
            for texts in equivalent_texts(table, 2):
                for text in texts:
                    self.assertEqual(list(Variants(table, text).each()), texts)

    def test_the_empty_text(self):
        variants = Variants(example_of_variants(), "")
        self.assertEqual([variants.variant_count, variants[0], variants.index_of(""), list(variants.each()),
                          list(variants.each(start=1)), variants.lengths(), variants.shortest(),
                          variants.distances(), "" in variants, "b" in variants],
                         [1, "", 0, [""], [], {0: 1}, "", {"": 0}, True, False])

    def test_marks_alone(self):
        variants = Variants(Table({"a": 0, "u": 1, "v": 2, "x": 1}), "vxu")
        self.assertEqual(list(variants.each()), ["vxu", "xuv", "xvu"])
        self.assertNotIn("uxv", variants)

    def test_excluded_composites_are_variants_too(self):
        self.assertEqual(list(Variants(example(), "auv").each()), ["Av", "B", "auv", "avu"])

    def test_too_many_rests(self):
        table = Table({"a": 0, **{str(rank): rank for rank in range(1, 10)}})
        text = "4444" + "3333" + "2222" + "1567"
        variants = Variants(table, text)
        self.assertEqual(variants.variant_count, math.factorial(16) // math.factorial(4) ** 3)
        self.assertEqual(len(variants.distances()), 2000)
        for text, total in ((text + "a", 2001), ("a" + text, 2001), (text + "8", 4000)):
            with self.assertRaises(errors.TooMany) as caught:
                Variants(table, text)
            self.assertEqual(caught.exception.total, total)
            self.assertIs(type(caught.exception.total), int)

    def test_the_table_is_checked_before_the_number_of_rests(self):
        table = Table.from_text("u 1\nv 2\nx 2\nW 1 = xu\n3 3\n4 4\n5 5")
        with self.assertRaises(errors.Unsound) as caught:
            Variants(table, "uv345" * 12)
        self.assertEqual((caught.exception.first, caught.exception.second), ("W", "v"))
        with self.assertRaises(errors.InvalidText):
            Variants(Table.from_text("u 1\nv 2\n3 3\n4 4\n5 5"), "uv345" * 12 + "u")

    def test_there_is_no_other_way_to_go_through(self):
        variants = Variants(two_names(), "a" * 60)
        with self.assertRaises(TypeError):
            iter(variants)


class IndexTest(unittest.TestCase):
    def test_wrong_indices(self):
        variants = Variants(example_of_variants(), "bnm")
        for value in no_integers() + [-1, 3, 4, -3, 10 ** 29, -10 ** 29, variants, "bnm"]:
            with self.assertRaises(errors.UnknownIndex) as caught:
                variants[value]
            self.assertIs(caught.exception.value, value)
        self.assertEqual([variants[0], variants[1], variants[2]], ["Bn", "bmn", "bnm"])

    def test_true_and_false_are_no_integers(self):
        variants = Variants(two_names(), "a")
        for value in (True, False):
            with self.assertRaises(errors.UnknownIndex) as caught:
                variants[value]
            self.assertIs(caught.exception.value, value)

    def test_in_for_any_value(self):
        variants = Variants(example_of_variants(), "bnm")
        for value in any_values() + ["", "b", "bm", "bmm", "bnmn", "bn", "mbn", "Bm", "BN", "Bn ", ["Bn"], ("Bn",), "a",
                                     variants, "bnm" * 1300]:
            self.assertIs(value in variants, False, value)
        for value in ("Bn", "bmn", "bnm"):
            self.assertIs(value in variants, True)

    def test_index_of_what_is_no_text(self):
        variants = Variants(example_of_variants(), "bnm")
        for value in any_values() + ["a", "Bn ", "bnma", ["Bn"], ("B", "n"), variants]:
            with self.assertRaises(errors.InvalidText) as caught:
                variants.index_of(value)
            self.assertIs(caught.exception.value, value)

    def test_index_of_texts_that_are_no_variants(self):
        variants = Variants(example_of_variants(), "bnm")
        for value in ("", "b", "bm", "bn", "B", "mbn", "Bm", "Bnm", "bmnn", "bnm" * 20 + "b", "bnm" * 1300):
            with self.assertRaises(errors.NoVariant) as caught:
                variants.index_of(value)
            self.assertIs(caught.exception.value, value)

    def test_index_of_variants_of_more_than_sixty_characters(self):
        variants = Variants(example_of_variants(), "B" * 60)
        self.assertEqual(variants.index_of("bm" * 60), 2 ** 60 - 1)
        self.assertEqual(variants.index_of("B" * 60), 0)
        self.assertEqual(variants[2 ** 60 - 1], "bm" * 60)
        self.assertIn("bm" * 60, variants)

    def test_very_many_variants_by_their_indices(self):
        variants = Variants(two_names(), "Aa" * 30)
        self.assertEqual(variants.variant_count, 2 ** 60)
        for index in (0, 1, 2, 2 ** 59 - 1, 2 ** 59, 6 ** 23, 10 ** 18 + 1, 2 ** 60 - 2, 2 ** 60 - 1):
            text = f"{index:060b}".replace("0", "A").replace("1", "a")
            self.assertEqual(variants[index], text)
            self.assertEqual(variants.index_of(text), index)
            self.assertIn(text, variants)
        for index in (2 ** 60, -1, -2 ** 60):
            with self.assertRaises(errors.UnknownIndex):
                variants[index]

    def test_very_many_orders_of_marks(self):
        variants = Variants(Table({"u": 1, "v": 2}), "vu" * 30)
        total = math.comb(60, 30)
        self.assertEqual(variants.variant_count, total)
        self.assertEqual((variants[0], variants[total - 1]), ("u" * 30 + "v" * 30, "v" * 30 + "u" * 30))
        self.assertEqual(variants[total // 2], "v" + "u" * 30 + "v" * 29)
        self.assertEqual(variants[total // 2 - 1], "u" + "v" * 30 + "u" * 29)
        for index in (0, 1, 7 ** 19, total // 2, total - 1):
            self.assertEqual(variants.index_of(variants[index]), index)
        self.assertEqual(variants.lengths(), {60: total})


class EachTest(unittest.TestCase):
    def test_from_every_start(self):
        for _, texts, variants in small_variants():
            for start in range(len(texts) + 1):
                self.assertEqual(list(itertools.islice(variants.each(start=start), 5)), texts[start:start + 5])
            self.assertEqual(list(variants.each(start=len(texts) // 2)), texts[len(texts) // 2:])

    def test_wrong_starts(self):
        variants = Variants(example_of_variants(), "bnm")
        for value in no_integers() + [-1, 4, 10 ** 29, -10 ** 29]:
            generator = variants.each(start=value)
            with self.assertRaises(errors.InvalidInteger) as caught:
                next(generator)
            self.assertIs(caught.exception.value, value)
        self.assertEqual(list(variants.each(start=3)), [])
        with self.assertRaises(TypeError):
            variants.each(1)

    def test_only_those_that_are_asked_for(self):
        variants = Variants(two_names(), "a" * 60)
        generator = variants.each()
        self.assertEqual([next(generator), next(generator)], ["A" * 60, "A" * 59 + "a"])
        self.assertEqual(next(variants.each(start=2 ** 59)), "a" + "A" * 59)
        self.assertEqual(list(variants.each(start=2 ** 60 - 2)), ["a" * 59 + "A", "a" * 60])
        self.assertEqual(list(variants.each(start=2 ** 60)), [])
        with self.assertRaises(errors.InvalidInteger):
            next(variants.each(start=2 ** 60 + 1))

    def test_a_generator_that_goes_on_beside_others(self):
        variants = Variants(example_of_variants(), "bnm")
        one, other = variants.each(), variants.each(start=1)
        self.assertIs(iter(one), one)
        self.assertEqual([next(one), next(other), next(one), next(one), next(other)],
                         ["Bn", "bmn", "bmn", "bnm", "bnm"])
        self.assertEqual([list(one), list(other)], [[], []])

    def test_many_in_order(self):
        variants = Variants(Table.from_text("a 0\nu 1\nv 2\nA 0 = au\nB 0 = av"), "auv" * 20)
        found = list(itertools.islice(variants.each(start=12345678), 3000))
        self.assertEqual(found, sorted(set(found)))
        self.assertEqual([variants.index_of(text) for text in found[::500]], list(range(12345678, 12348678, 500)))


class EqualTest(unittest.TestCase):
    def test_equal(self):
        table = example_of_variants()
        variants = Variants(table, "bnm")
        for other in (variants, Variants(table, "bnm"), Variants(table, "Bn"), Variants(example_of_variants(), "bmn")):
            self.assertIs(variants == other, True)
            self.assertIs(variants != other, False)

    def test_not_equal(self):
        table = example_of_variants()
        variants = Variants(table, "bnm")
        excluded = Table({"b": 0, "m": 1, "n": 2, "B": 0}, decompositions={"B": "bm"}, excluded="B")
        more = Table({"b": 0, "c": 0, "m": 1, "n": 2, "B": 0}, decompositions={"B": "bm"})
        others = [Variants(table, "bn"), Variants(table, ""), Variants(excluded, "bnm"), Variants(more, "bnm")]
        for other in others + any_values() + ["bnm", ["Bn", "bmn", "bnm"], table]:
            self.assertIs(variants == other, False)
            self.assertIs(variants != other, True)
            self.assertIs(other == variants, False)
        self.assertIs(Variants(table, "") == Variants(two_names(), ""), False)


class LengthsTest(unittest.TestCase):
    def test_as_the_variants_have(self):
        for _, texts, variants in small_variants():
            found = [len(text) for text in texts]
            self.assertEqual(list(variants.lengths().items()), [(n, found.count(n)) for n in sorted(set(found))])
            self.assertEqual(variants.shortest(), min(texts, key=len))

    def test_lengths_in_ascending_order_from_the_least_one(self):
        table = Table.from_text("a 0\nA 0 = aa\nB 0 = AA\nC 0 = BB\nD 0 = aB excluded")
        self.assertEqual(list(Variants(table, "C").lengths().items())[:3], [(1, 1), (2, 1), (3, 9)])
        self.assertEqual(list(Variants(table, "DC").lengths()), list(range(2, 14)))
        self.assertEqual(list(Variants(table, "aAa").lengths().items()), [(1, 1), (2, 1), (3, 3), (4, 1)])

    def test_very_many(self):
        table = Table({"a": 0, "P": 0}, decompositions={"P": "aa"})
        lengths = Variants(table, "P" * 60).lengths()
        self.assertEqual(list(lengths.items()), [(120 - n, math.comb(120 - n, n)) for n in range(60, -1, -1)])
        self.assertEqual(Variants(two_names(), "a" * 60).lengths(), {60: 2 ** 60})

    def test_dicts_are_new(self):
        variants = Variants(example_of_variants(), "bnm")
        variants.lengths().clear()
        self.assertEqual(variants.lengths(), {2: 1, 3: 2})

    def test_the_first_shortest_in_ascending_order(self):
        table = Table.from_text("a 0\nu 1\nv 2\nA 0 = au\nB 0 = av")
        self.assertEqual(Variants(table, "avu").shortest(), "Av")
        self.assertEqual(Variants(table, "avuavu").shortest(), "AvAv")
        self.assertEqual(Variants(two_names(), "a" * 60).shortest(), "A" * 60)

    def test_a_shortest_variant_that_is_not_the_composed_form(self):
        table = Table.from_text("a 0\nu 2\nv 1\nA 0 = au\nD 0 = Av\nE 0 = av")
        self.assertEqual([composed(table, "D"), Variants(table, "D").shortest()], ["Eu", "D"])


class DistancesTest(unittest.TestCase):
    def test_distances(self):
        variants = Variants(example_of_variants(), "bnm")
        self.assertEqual(variants.distances(), {"bmn": 2, "mn": 2, "m": 1, "n": 1, "": 0})

    def test_lengths_of_the_shortest_variants_of_all_rests(self):
        for table, texts, variants in small_variants():
            found = variants.distances()
            self.assertEqual(sorted(found), sorted(rests(table, texts[0])))
            for rest in found:
                self.assertEqual(found[rest], min([len(text) for text in Variants(table, rest).each()]))
            self.assertIs(variants.is_distances(found), True)
            self.assertEqual(found[decomposed(table, texts[0])], len(variants.shortest()))

    def test_as_point_65_says(self):
        for table, texts, variants in small_variants():
            found = variants.distances()
            for rest in found:
                for change in (-1, 1):
                    value = {**found, rest: found[rest] + change}
                    expected = value[""] == 0 and not [
                        0 for r in value for c in beginnings(table, r) if value[r] > 1 + value[rest_after(table, r, c)]
                    ]
                    self.assertIs(variants.is_distances(value), expected)

    def test_integers_may_be_less_and_negative(self):
        variants = Variants(example_of_variants(), "bnm")
        for value in ({"bmn": -5, "mn": -10 ** 29, "m": -1, "n": 0, "": 0}, {"bmn": 0, "mn": 0, "m": 0, "n": 0, "": 0}):
            self.assertIs(variants.is_distances(value), value["mn"] == 0)
        self.assertIs(variants.is_distances({"bmn": -3, "mn": -2, "m": 1, "n": -3, "": 0}), True)
        self.assertIs(variants.is_distances({"bmn": 2, "mn": 2, "m": 1, "n": 1, "": 0}), True)

    def test_other_values(self):
        variants = Variants(example_of_variants(), "bnm")
        found = variants.distances()
        wrong = [{}, {"": 0}, {**found, "b": 1}, {**found, 0: 0}, {**found, None: 1}, list(found), list(found.items()),
                 {**found, "": 1}, {**found, "": -1}, {**found, "": False}, {**found, "": None}, {**found, "m": True},
                 {**found, "m": "1"}, {**found, "m": None}, {**found, "m": [1]}, {**found, "bmn": 3},
                 {rest: found[rest] for rest in found if rest != "mn"},
                 {("x" if rest == "mn" else rest): found[rest] for rest in found},
                 {((rest,) if rest == "mn" else rest): found[rest] for rest in found}, variants]
        for value in wrong + any_values():
            kept = copy.deepcopy(value) if isinstance(value, (dict, list)) else value
            self.assertIs(variants.is_distances(value), False, value)
            self.assertEqual(value, kept)

    def test_the_order_of_the_keys_has_no_effect(self):
        variants = Variants(example_of_variants(), "bnm")
        self.assertIs(variants.is_distances(dict(reversed(list(variants.distances().items())))), True)
        self.assertIs(variants.is_distances(value=variants.distances()), True)

    def test_rests_of_more_than_sixty_characters(self):
        variants = Variants(example_of_variants(), "B" * 60)
        found = variants.distances()
        self.assertEqual((found["bm" * 60], found["m" + "bm" * 59], found["bm" * 59]), (60, 60, 59))
        self.assertIs(variants.is_distances(found), True)
        self.assertIs(variants.is_distances({**found, "bm" * 60: 61}), False)

    def test_dicts_are_new(self):
        variants = Variants(example_of_variants(), "bnm")
        variants.distances().clear()
        self.assertEqual(len(variants.distances()), 5)

    def test_no_variant_is_shorter_than_such_a_dict_says(self):
        for table, texts, variants in small_variants():
            found = variants.distances()
            for less in range(3):
                value = {rest: found[rest] - less if rest else 0 for rest in found}
                self.assertIs(variants.is_distances(value), True)
                self.assertLessEqual(value[decomposed(table, texts[0])], min([len(text) for text in texts]))
