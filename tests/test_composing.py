import unittest

from canontext import errors
from canontext.composing import composed, formed, is_composed
from canontext.forms import are_equivalent
from canontext.soundness import decomposed
from canontext.tables import Table
from tests.values import any_values, equivalent_texts, example, sound_tables, texts_up_to, unsound


def example_of_composing():
    """The table of the example behind point 51."""
    return Table({"a": 0, "u": 1, "v": 2, "A": 0, "B": 0, "C": 0}, decompositions={"A": "au", "B": "av", "C": "Av"})


def combined(table, text):
    """The composed form, by looking for each atom through all that is there for the last base."""
    found = ""
    for atom in decomposed(table, text):
        bases = [at for at in range(len(found)) if found[at] in table.bases]
        if bases:
            base = bases[-1]
            free = base == len(found) - 1 or table.class_of(found[-1]) < table.class_of(atom)
            composite = table.composite_of(found[base], atom)
            if free and composite is not None:
                found = found[:base] + composite + found[base + 1:]
                continue
        found += atom
    return found


class ComposedTest(unittest.TestCase):
    def expect(self, table, rows):
        for text, form in rows:
            self.assertEqual(composed(table, text), form, text)
            self.assertIs(is_composed(table, text), text == form)
            self.assertIs(is_composed(table, form), True)

    def test_example_of_point_51(self):
        table = example_of_composing()
        self.assertEqual([composed(table, text) for text in ["avu", "auu", "avvu", "uB"]], ["C", "Au", "Cv", "uB"])

    def test_composed(self):
        self.expect(example_of_composing(), [
            ("", ""), ("a", "a"), ("A", "A"), ("Au", "Au"), ("Bu", "C"), ("av", "B"), ("vu", "uv"), ("uav", "uB"),
            ("avuavauv", "CBC"), ("Buu", "Cu"), ("avuu", "Cu"), ("aa", "aa"), ("Ca", "Ca"), ("Cu", "Cu"),
            ("vCu", "vCu"), ("Bvu", "Cv"),
        ])

    def test_marks_of_one_class_block_each_other(self):
        table = Table.from_text("a 0\nu 1\nx 1\nv 2\nA 0 = ax\nB 0 = av")
        self.expect(table, [("aux", "aux"), ("axu", "Au"), ("auv", "Bu"), ("avux", "Bux"), ("auvx", "Bux"),
                            ("uax", "uA"), ("xau", "xau"), ("avx", "Av")])

    def test_the_last_mark_blocks_not_the_first_one(self):
        table = Table.from_text("a 0\nu 1\nv 2\nx 2\nA 0 = ax")
        self.expect(table, [("ax", "A"), ("aux", "Au"), ("avx", "avx"), ("auvx", "auvx"), ("avux", "auvx"),
                            ("auxv", "Auv")])

    def test_a_mark_of_a_higher_class_does_not_block(self):
        table = Table.from_text("a 0\nu 1\nv 2\nw 3\nA 0 = aw\nB 0 = Au")
        self.expect(table, [("auw", "Au"), ("awu", "Au"), ("wvua", "uvwa"), ("avw", "Av"), ("avuw", "Auv")])

    def test_excluded_composites(self):
        self.expect(example(), [("auv", "Av"), ("B", "Av"), ("A", "A"), ("Bv", "Avv")])
        table = Table.from_text("a 0\nu 1\nv 2\nA 0 = au excluded\nB 0 = Av")
        self.expect(table, [("A", "au"), ("B", "auv"), ("avu", "auv")])
        table = Table.from_text("a 0\nu 1\nA 0 = au excluded\nB 0 = au")
        self.expect(table, [("A", "B"), ("B", "B"), ("au", "B")])

    def test_composites_of_one_character(self):
        table = Table.from_text("a 0\nu 1\nv 2\nA 0 = a\nU 1 = u\nB 0 = Au\nC 0 = au")
        self.expect(table, [("A", "a"), ("U", "u"), ("Au", "C"), ("AU", "C"), ("B", "C"), ("vU", "uv")])

    def test_composites_that_begin_with_a_mark_or_end_with_a_composite(self):
        table = Table.from_text("a 0\nu 1\nv 2\nW 1 = uv\nA 0 = aW")
        self.expect(table, [("W", "uv"), ("uv", "uv"), ("aW", "auv"), ("A", "auv")])
        table = Table.from_text("a 0\nu 1\nA 0 = au\nP 0 = aA")
        self.expect(table, [("P", "aA"), ("aau", "aA"), ("aA", "aA")])

    def test_atoms_that_are_combined_in_another_way_first(self):
        table = Table.from_text("a 0\nu 2\nv 1\nA 0 = au\nD 0 = Av\nE 0 = av")
        self.expect(table, [("D", "Eu"), ("Av", "Eu"), ("E", "E"), ("A", "A"), ("au", "A")])
        table = Table.from_text("a 0\nb 0\nP 0 = aa\nQ 0 = ab\nR 0 = Pb\nS 0 = aQ")
        self.expect(table, [("aab", "R"), ("S", "R"), ("aQ", "R"), ("Pb", "R"), ("ab", "Q")])

    def test_a_base_that_pairs_with_itself(self):
        table = Table.from_text("a 0\nm 1\nP 0 = aa")
        self.expect(table, [("a", "a"), ("aa", "P"), ("aaa", "Pa"), ("aaaa", "PP"), ("aP", "Pa"), ("aam", "Pm"),
                            ("ama", "ama"), ("aaamaa", "PamP"), ("maa", "mP"), ("a" * 60, "P" * 30)])
        table = Table.from_text("a 0\nP 0 = aa\nQ 0 = PP\nR 0 = Pa")
        self.expect(table, [("aaa", "R"), ("aaaa", "Ra"), ("Q", "Ra"), ("PP", "Ra"), ("aP", "R"), ("a" * 7, "RRa")])

    def test_a_mark_keeps_a_base_away(self):
        table = Table.from_text("a 0\nb 0\nm 1\nP 0 = ab\nA 0 = am\nQ 0 = Ab")
        self.expect(table, [("amb", "Q"), ("ab", "P"), ("ammb", "Amb"), ("abm", "Pm"), ("mab", "mP")])

    def test_marks_that_contain_bases(self):
        table = Table.from_text("a 0\nu 1\nx 1\nW 1 = ua\nA 0 = au")
        self.expect(table, [("W", "ua"), ("aW", "Aa"), ("WW", "uAa"), ("Wx", "uax")])

    def test_sixty_characters_of_eight_atoms(self):
        lines = ["a 0", "u 1", "v 2", "A 0 = av", "B 0 = Au", "C 0 = BB", "D 0 = Cu", "E 0 = Du"]
        table = Table.from_text("\n".join(lines))
        self.assertEqual(table.atoms("E"), "avuavuuu")
        # In the form, each u stands in front of v, so it has no A yet to be combined with.
        self.assertEqual(composed(table, "E" * 60), "AuAuuu" * 60)
        self.assertEqual(combined(table, "E" * 60), "AuAuuu" * 60)
        with self.assertRaises(errors.InvalidText):
            composed(table, "E" * 61)

    def test_as_by_the_words_of_the_document(self):
        for table in sound_tables():
            for text in texts_up_to(table, 4)[:1000]:
                self.assertEqual(composed(table, text), combined(table, text))

    def test_equivalent_texts_have_one_composed_form(self):
        for table in sound_tables():
            for texts in equivalent_texts(table, 3):
                forms = {composed(table, text) for text in texts}
                self.assertEqual(len(forms), 1)
                self.assertEqual([text for text in texts if is_composed(table, text)], sorted(forms))
                self.assertIs(are_equivalent(table, texts[0], forms.pop()), True)


class FormedTest(unittest.TestCase):
    def test_formed(self):
        for lines, found in (
            ("a 0", "a"),
            ("a 0\nu 1\nv 2\nA 0 = au\nB 0 = av\nC 0 = Av", "ABCauv"),
            ("a 0\nu 1\nv 2\nA 0 = au\nB 0 = Av excluded", "Aauv"),
            ("a 0\nu 1\nv 2\nA 0 = au excluded\nB 0 = Av", "auv"),
            ("a 0\nu 1\nA 0 = a\nU 1 = u\nB 0 = Au", "au"),
            ("a 0\nu 1\nv 2\nW 1 = uv\nA 0 = aW", "auv"),
            ("a 0\nu 2\nv 1\nA 0 = au\nD 0 = Av\nE 0 = av", "AEauv"),
            ("a 0\nP 0 = aa\nQ 0 = PP\nR 0 = Pa", "PRa"),
            ("a 0\nu 1\nA 0 = au excluded\nB 0 = au", "Bau"),
            ("u 1\nv 2\n0 3", "0uv"),
        ):
            self.assertEqual(formed(Table.from_text(lines)), found)

    def test_exactly_the_characters_of_composed_forms(self):
        for table in sound_tables():
            found = {character for text in texts_up_to(table, 4)[:2000] for character in composed(table, text)}
            self.assertEqual(formed(table), "".join(sorted(found)))
            self.assertEqual(formed(table), "".join([c for c in table.characters if is_composed(table, c)]))

    def test_wrong_tables(self):
        for value in any_values():
            with self.assertRaises(errors.InvalidTable) as caught:
                formed(value)
            self.assertIs(caught.exception.value, value)
        with self.assertRaises(errors.Unsound) as caught:
            formed(table=unsound())
        self.assertEqual((caught.exception.first, caught.exception.second), ("W", "v"))
