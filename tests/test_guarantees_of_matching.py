import random
import unittest

from canontext.composing import composed
from canontext.console import Console
from canontext.errors import Absent, TextError
from canontext.forms import are_equivalent
from canontext.mappings import Mapping, find_break, is_break
from canontext.matching import accepted_at, accepted_count, each_accepted, is_refutation, matches, refutation
from canontext.matching import some_variant
from canontext.patterns import Pattern, closure_gap
from canontext.revisions import changed_text, extends, is_changed_text, spelled, unspelled
from canontext.soundness import rules
from canontext.tables import Table
from tests.test_guarantees import random_cases
from tests.values import texts_up_to
from tests.ways import accepts, random_tree, written


def parts_of(chance, table):
    """Tables that a table extends: without some characters, and without each one."""
    chosen = [chance.sample(table.characters, chance.randint(1, len(table)))]
    chosen.extend([table.characters.replace(one, "") for one in table.characters])
    found = []
    for characters in chosen:
        try:
            found.append(Table.from_text("\n".join([line for line in str(table).split("\n") if line[0] in characters])))
        except TextError:
            # Some composite is left without its parts.
            continue
    return found


class MatchingGuaranteesTest(unittest.TestCase):
    """What point 10 promises of matching, mappings and revisions, over random tables."""

    @classmethod
    def setUpClass(cls):
        cls.cases = list(random_cases())

    def test_whether_a_pattern_accepts_some_variant_is_decided(self):
        chance = random.Random(1)
        decided = {True: 0, False: 0}
        for table, text, texts, _ in self.cases:
            tree = random_tree(chance, table.characters, chance.randint(2, 6))
            pattern = Pattern(table, written(tree))
            accepted = [one for one in texts if accepts(tree, one)]
            decided[bool(accepted)] += 1
            self.assertIs(matches(pattern, text), bool(accepted))
            self.assertEqual(accepted_count(pattern, text), len(accepted))
            self.assertEqual(list(each_accepted(pattern, text)), accepted)
            self.assertEqual([accepted_at(pattern, text, at) for at in range(len(accepted))][:9], accepted[:9])
            found = refutation(pattern, text)
            self.assertIs(found is None, bool(accepted))
            if accepted:
                self.assertEqual(some_variant(pattern, text), accepted[0])
            else:
                self.assertIsNone(some_variant(pattern, text))
                self.assertIs(is_refutation(pattern, texts[0], found), True)
                for at in range(0, len(found), 5):
                    self.assertIs(is_refutation(pattern, text, found[:at] + found[at + 1:]), False)
        self.assertGreater(min(decided.values()), 50)

    def test_a_closed_pattern_matches_what_it_accepts(self):
        chance = random.Random(2)
        for table, text, texts, other in self.cases:
            pattern = Pattern(table, written(random_tree(chance, table.characters, 3)))
            if closure_gap(pattern) is None:
                for one in (text, other, texts[0]):
                    self.assertIs(matches(pattern, one), pattern(one))

    def test_a_mapping_keeps_equivalence_or_a_break_is_returned(self):
        chance = random.Random(3)
        targets = [case[0] for case in self.cases]
        kept = broken = 0
        for source, _, texts, _ in self.cases:
            target = chance.choice(targets)
            if chance.random() < 0.4:
                target = source
            images = {}
            for character in sorted(source.characters, key=lambda one: len(source.atoms(one))):
                if source.decomposition(character) is not None:
                    images[character] = "".join([images.get(atom, "") for atom in source.atoms(character)])[:4]
                else:
                    images[character] = character if target is source else chance.choice(target.characters)
                if chance.random() < 0.2:
                    images[character] = "".join(chance.choices(target.characters, k=chance.randint(0, 2)))
            mapping = Mapping(source, target, images)
            found = find_break(mapping)
            if found is None:
                kept += 1
                short = [one for one in texts if len(one) <= 15][:40]
                for one in short:
                    self.assertTrue(are_equivalent(target, mapping(short[0]), mapping(one)))
                    self.assertIs(is_break(mapping, (short[0], one)), False)
            else:
                broken += 1
                self.assertIn(found, rules(source))
                self.assertTrue(are_equivalent(source, found[0], found[1]))
                self.assertFalse(are_equivalent(target, mapping(found[0]), mapping(found[1])))
                self.assertIs(is_break(mapping, found), True)
        self.assertGreater(min(kept, broken), 50)

    def test_a_revision_keeps_all_composed_forms_or_a_text_is_returned(self):
        chance = random.Random(4)
        kept = changed = 0
        for new, old in [(case[0], old) for case in self.cases for old in parts_of(chance, case[0])]:
            self.assertIs(extends(new, old), True)
            found = changed_text(new, old)
            if found is None:
                kept += 1
                for text in texts_up_to(old, 2) + ["".join(chance.choices(old.characters, k=7)) for _ in range(9)]:
                    self.assertEqual(composed(new, text), composed(old, text))
                    self.assertIs(is_changed_text(new, old, text), False)
            else:
                changed += 1
                self.assertNotEqual(composed(new, found), composed(old, found))
                self.assertIs(is_changed_text(new, old, found), True)
        self.assertGreater(min(kept, changed), 30)

    def test_spelled_is_the_first_variant_of_the_characters(self):
        chance = random.Random(5)
        for table, text, texts, _ in self.cases:
            listed = "".join(chance.sample(table.characters, chance.randint(1, len(table))))
            found = [one for one in texts if set(one) <= set(listed)]
            self.assertEqual(spelled(table, text, listed), found[0] if found else None)
            if unspelled(table, listed) is None:
                self.assertTrue(found)
            else:
                self.assertIsNone(spelled(table, unspelled(table, listed), listed))

    def test_a_console_over_random_tables(self):
        for table, text, texts, other in self.cases[::5]:
            console = Console()
            console.run("table " + str(table).replace("\n", " / "))
            self.assertEqual(console.table, table)
            self.assertEqual(console.run("text " + (text or "-")), composed(table, text) or "-")
            self.assertEqual(console.run("count"), str(len(texts)))
            self.assertEqual(console.run(f"variant {len(texts) - 1}"), texts[-1] or "-")
            same = console.run(f"same {text or '-'} {other or '-'}")
            self.assertIs(same == "yes", other in texts)
            kept = [console.text, console.form, console.run("change")]
            try:
                console.run_all([f"put 0 {other or '-'}", "count", "shortest", "undo", "undo"])
            except Absent:
                self.assertEqual([console.text, console.form, console.run("change")], kept)
