import random
import unittest

from canontext.composing import composed, formed, is_composed
from canontext.errors import TextError
from canontext.forms import are_equivalent, first_difference, is_path, path_between
from canontext.rests import beginnings, rest_after, rest_count, rests
from canontext.soundness import decomposed, judge
from canontext.tables import Table
from canontext.variants import Variants
from tests.values import reached_from

MANY = 500


def random_table(chance):
    """A table of few characters, or None if what was chosen is none that is sound."""
    composites = chance.sample("ABUV", chance.randint(0, 4))
    characters = chance.sample("abuvw", chance.randint(1, 4)) + composites
    classes = {character: 0 if character in "abAB" else chance.randint(1, 3) for character in characters}
    decompositions = {one: "".join(chance.choices(characters, k=chance.choice([1, 2, 2]))) for one in composites}
    excluded = "".join([composite for composite in composites if chance.random() < 0.1])
    try:
        table = Table(classes, decompositions=decompositions, excluded=excluded)
    except TextError:
        return None
    return table if judge(table) is None else None


def random_cases():
    """Random sound tables, each with a text, all texts that are equivalent to it, and one more text."""
    chance = random.Random(2026)
    found = 0
    while found < MANY:
        table = random_table(chance)
        if table is not None and (table.composites or chance.random() < 0.05):
            lengths = chance.choices([0, 1, 2, 3, 4, 5, 5], k=2)
            text, other = ["".join(chance.choices(table.characters, k=length)) for length in lengths]
            texts = reached_from(table, text)
            if len(texts) <= 300:
                found += 1
                yield table, text, texts, other


class GuaranteesTest(unittest.TestCase):
    """What point 10 promises of equivalent texts, by a search over steps."""

    @classmethod
    def setUpClass(cls):
        cls.cases = list(random_cases())

    def test_there_are_cases_of_every_sort(self):
        tables = [table for table, _, _, _ in self.cases]
        self.assertTrue([0 for table in tables if [0 for mark in table.marks if mark in table.composites]])
        self.assertTrue([0 for table in tables if table.excluded])
        self.assertTrue([0 for table in tables if formed(table) != table.characters])
        self.assertTrue([0 for table in tables if [0 for c in formed(table) if c in table.composites]])
        self.assertGreater(len([0 for _, _, texts, _ in self.cases if len(texts) > 10]), 50)

    def test_equivalent_texts_have_one_decomposed_form_and_one_composed_form(self):
        for table, text, texts, other in self.cases:
            self.assertEqual({decomposed(table, one) for one in texts}, {decomposed(table, text)})
            self.assertEqual({composed(table, one) for one in texts}, {composed(table, text)})
            self.assertEqual([one for one in texts if is_composed(table, one)], [composed(table, text)])
            same = other in texts
            self.assertIs(decomposed(table, other) == decomposed(table, text), same)
            self.assertIs(composed(table, other) == composed(table, text), same)
            self.assertIs(are_equivalent(table, text, other), same)

    def test_steps_or_the_first_difference_are_returned(self):
        for table, text, texts, other in self.cases:
            for one in texts[::10] + [texts[-1]]:
                self.assertIs(is_path(table, text, one, path_between(table, text, one)), True)
                self.assertIsNone(first_difference(table, text, one))
            if other in texts:
                continue
            self.assertIsNone(path_between(table, text, other))
            index, first, second = first_difference(table, text, other)
            forms = [decomposed(table, text), decomposed(table, other)]
            self.assertEqual(forms[0][:index], forms[1][:index])
            self.assertEqual([form[index:index + 1] for form in forms], [first, second])
            self.assertNotEqual(first, second)

    def test_the_variants_are_the_texts_to_which_steps_lead(self):
        for table, text, texts, other in self.cases:
            variants = Variants(table, text)
            self.assertEqual(list(variants.each()), texts)
            self.assertEqual(variants.variant_count, len(texts))
            self.assertEqual([variants.index_of(one) for one in texts], list(range(len(texts))))
            self.assertEqual([variants[index] for index in range(len(texts))], texts)
            self.assertIs(other in variants, other in texts)
            self.assertIs(Variants(table, other) == variants, other in texts)
            self.assertIn(composed(table, text), variants)

    def test_the_rests_are_the_forms_behind_beginnings_of_variants(self):
        for table, text, texts, other in self.cases:
            behind = {one[:at]: decomposed(table, one[at:]) for one in texts for at in range(len(one) + 1)}
            found = rests(table, text)
            self.assertEqual(sorted(found), sorted(set(behind.values())))
            self.assertEqual(rest_count(table, text), len(found))
            self.assertEqual(rest_after(table, text, other), behind.get(other))
            self.assertEqual({one: rest_after(table, text, one) for one in behind}, behind)
            self.assertEqual(beginnings(table, text), "".join(sorted([one for one in behind if len(one) == 1])))

    def test_no_variant_is_shorter_than_the_distance_says(self):
        for table, text, texts, _ in self.cases:
            variants = Variants(table, text)
            found = variants.distances()
            self.assertIs(variants.is_distances(found), True)
            self.assertEqual(found[decomposed(table, text)], min([len(one) for one in texts]))
            self.assertEqual(variants.shortest(), min(texts, key=len))
            self.assertEqual(sum(variants.lengths().values()), len(texts))
