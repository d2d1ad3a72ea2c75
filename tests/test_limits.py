import itertools
import string

from canontext.composing import composed, formed, is_composed
from canontext.errors import TooMany
from canontext.forms import are_equivalent, blocks, first_difference, is_path, path_between
from canontext.rests import beginnings, rest_after, rest_count, rests
from canontext.soundness import decomposed, judge
from canontext.tables import Table
from canontext.variants import Variants
from tests.limits import TimedCase, bases_and_marks, doubled_marks, mixed_marks


class LimitsTest(TimedCase):
    """No function takes long at the limits of point 7."""

    def check_texts(self, table, text):
        """Call each function with a text and with its opposite order."""
        self.assertEqual((len(table), len(text), judge(table)), (30, 60, None))
        form = decomposed(table, text)
        self.assertEqual("".join(blocks(table, text)), form)
        self.assertIs(are_equivalent(table, text, text), True)
        self.assertIs(are_equivalent(table, text, text[::-1]), first_difference(table, text, text[::-1]) is None)
        self.assertIs(is_composed(table, text), composed(table, text) == text)
        self.assertLessEqual(set(composed(table, text)), set(formed(table)))
        self.assertEqual(rest_after(table, text, text), "")
        self.assertIn(rest_after(table, text, text[::-1]), ("", None))
        self.assertIn(text[0], beginnings(table, text))
        if rest_count(table, text) > 2000:
            for function in (rests, Variants):
                with self.assertRaises(TooMany):
                    function(table, text)
        else:
            self.check_variants(table, text)

    def check_variants(self, table, text):
        """Call each method of the variants of a text, and go through some of them."""
        self.assertEqual(len(rests(table, text)), rest_count(table, text))
        variants = Variants(table, text)
        total = variants.variant_count
        for index in (0, total // 3, total // 2, total - 1):
            self.assertEqual(variants.index_of(variants[index]), index)
            self.assertIn(variants[index], variants)
            for variant in itertools.islice(variants.each(start=index), 2000):
                self.assertIn(variant, variants)
        self.assertEqual(sum(variants.lengths().values()), total)
        found = variants.distances()
        self.assertIs(variants.is_distances(found), True)
        self.assertEqual(len(variants.shortest()), found[decomposed(table, text)])

    def test_marks_of_eight_atoms_with_many_rests(self):
        table = doubled_marks()
        self.check_texts(table, "vC" * 4 + "C" * 52)
        self.assertEqual(rest_count(table, "C" * 56 + "vvv"), 449 * 4)
        self.check_variants(table, "C" * 56 + "vvv")
        self.check_variants(table, "C" * 30 + "v" * 7)

    def test_marks_with_many_ways_to_combine_them(self):
        table = mixed_marks()
        longest = [character for character in table.characters if len(table.atoms(character)) == 8]
        alike = [character for character in longest if "v" not in table.atoms(character)]
        self.check_texts(table, (longest * 60)[0] * 60)
        self.check_variants(table, alike[0] * 55 + "vvv")
        self.check_variants(table, alike[0] * 4 + "v" * 40)

    def test_bases_of_eight_atoms(self):
        table = bases_and_marks()
        self.check_texts(table, "E" * 60)
        self.check_texts(table, "L" * 15 + "C" * 45)
        self.check_texts(table, "EDCBA" * 12)
        self.check_texts(table, "S" * 60)
        self.check_texts(table, "bS" * 2 + "1b" * 28)
        self.check_texts(table, "987654321" * 6 + "987654")

    def test_paths_between_forms_of_sixty_atoms(self):
        table = bases_and_marks()
        ranks = "".join([str(rank) * 6 for rank in range(9, 0, -1)]) + "aaaaaa"
        for one, other in ((ranks, decomposed(table, ranks)), ("E" * 7 + "B", "a" * 60), ("L" * 7, "a1234567" * 7)):
            path = path_between(table, one, other)
            self.assertIs(is_path(table, one, other, path), True)
        lines = ["a 0"] + [f"{one} 0 = {other}" for one, other in zip(string.ascii_letters[1:30], string.ascii_letters)]
        table = Table.from_text("\n".join(lines))
        path = path_between(table, string.ascii_letters[29] * 60, "a" * 60)
        self.assertEqual(len(path), 29 * 60 + 1)
        self.assertIs(is_path(table, path[0], path[-1], path), True)

    def test_long_values(self):
        table = bases_and_marks()
        self.assertIs(is_path(table, "a", "a", ["a"] + ["a" * 4000] * 2098 + ["a"]), False)
        self.assertIs(is_path(table, "a" * 60, "a" * 60, ["a" * 60] * 2100), False)
        variants = Variants(table, "E" * 60)
        self.assertIs(("a" * 4000) in variants, False)
        self.assertIs(variants.is_distances({"a" * at: at for at in range(2100)}), False)
