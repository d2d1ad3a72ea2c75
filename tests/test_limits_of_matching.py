import itertools
import random

from canontext.console import Console
from canontext.errors import TextError
from canontext.mappings import Mapping, find_break, is_break
from canontext.matching import accepted_at, accepted_count, each_accepted, is_refutation, matches, refutation
from canontext.matching import some_variant
from canontext.patterns import Pattern
from canontext.revisions import changed_text, extends, is_changed_text, spelled, unspelled
from canontext.tables import Table
from tests.limits import TimedCase, bases_and_marks, doubled_marks, mixed_marks


def texts_with_many_rests():
    """Tables with texts of nearly 2,000 rests, or of as many atoms as there can be."""
    mixed = mixed_marks()
    alike = [one for one in mixed.characters if mixed.atoms(one) == "u" * 8][0]
    return [
        (doubled_marks(), "C" * 56 + "vvv"),
        (mixed, alike * 55 + "vvv"),
        (bases_and_marks(), "E" * 60),
        (bases_and_marks(), "9876543219" + "b1" * 25),
    ]


class MatchingLimitsTest(TimedCase):
    def check(self, table, text, written):
        pattern = Pattern(table, written)
        total = accepted_count(pattern, text)
        self.assertIs(matches(pattern, text), total > 0)
        found = refutation(pattern, text)
        self.assertIs(found is None, total > 0)
        if found is not None:
            self.assertIsNone(some_variant(pattern, text))
            self.assertIs(is_refutation(pattern, text, found), True)
            self.assertIs(is_refutation(pattern, text, found[::-1]), True)
            self.assertIs(is_refutation(pattern, text, found[1:]), False)
            return
        self.assertEqual(accepted_at(pattern, text, 0), some_variant(pattern, text))
        last = list(each_accepted(pattern, text, start=total - 1))
        self.assertEqual(last, [accepted_at(pattern, text, total - 1)])
        some = list(itertools.islice(each_accepted(pattern, text, start=total // 3), 1000))
        self.assertEqual(some, sorted(set(some)))

    def test_patterns_of_many_states(self):
        for table, text in texts_with_many_rests():
            one, other = text[0], text[-1]
            self.check(table, text, f"[^{one}]*{other}......")
            self.check(table, text, f".*{one}.*{other}.")

    def test_nothing_is_accepted(self):
        table = bases_and_marks()
        for text in ("9876543219", "98765432199"):
            for written in (".*1.....a", "([12].|[34]..)*..a", "a.*"):
                self.check(table, text, written)
        table = Table.from_text("a 0\n" + str(Table({character: 1 + at for at, character in enumerate("uvwxyz")})))
        self.check(table, "uuuuuuvvvvwwwxyz", ".*u.....a")


class RevisionLimitsTest(TimedCase):
    def test_spelled(self):
        for table, text in texts_with_many_rests():
            for characters in ("", table.characters, table.characters[::2], text[0], "".join(sorted(set(text)))):
                found = spelled(table, text, characters)
                self.assertTrue(found is None or set(found) <= set(characters))
                unspelled(table, characters)
            self.assertIsNotNone(spelled(table, text, "".join(sorted(set(text)))))

    def test_characters_of_eight_classes(self):
        lines = ["a 0"] + [f"{rank} {rank}" for rank in range(1, 9)] + ["A 0 = a1"]
        lines.extend([f"{name} 0 = {part}{rank}" for name, part, rank in zip("BCDEFG", "ABCDEF", range(2, 8))])
        lines.extend([f"{name} 0 = G" for name in "HIJKLMNOPQRSTU"])
        table = Table.from_text("\n".join(lines))
        self.assertEqual(len(table), 30)
        self.assertIsNone(unspelled(table, "a12345678"))
        self.assertEqual(unspelled(table, table.characters.replace("a", "").replace("A", "")), "A")
        self.assertIsNone(unspelled(table, table.characters[::-1]))

    def test_long_values(self):
        for table in (doubled_marks(), mixed_marks(), bases_and_marks()):
            old = Table({character: table.class_of(character) for character in table.characters
                         if table.decomposition(character) is None})
            self.assertIs(extends(table, old), True)
            changed = changed_text(table, old)
            self.assertIs(is_changed_text(table, old, (changed or old.characters) * 500), changed is not None)
            self.assertIs(is_changed_text(table, old, old.characters[-1] * 4000), "aa" in (changed or "") and (
                old.characters[-1] == "a"))
            self.assertIs(is_changed_text(table, table, table.characters[0] * 4000), False)


class MappingLimitsTest(TimedCase):
    def test_long_images(self):
        for table in (doubled_marks(), mixed_marks(), bases_and_marks()):
            mapping = Mapping(table, table, {character: character * 4 for character in table.characters})
            both = mapping.then(mapping).then(mapping).then(mapping)
            self.assertEqual(both(table.characters[0] * 60), table.characters[0] * (60 * 256))
            for one in (mapping, both):
                found = find_break(one)
                self.assertTrue(found is None or is_break(one, found))
            self.assertIs(is_break(mapping, (table.characters[0] * 4000, table.characters[0] * 4000)), False)


class ConsoleLimitsTest(TimedCase):
    def test_a_thousand_lines(self):
        chance = random.Random(9)
        table = bases_and_marks()
        console = Console()
        console.run("table " + str(table).replace("\n", " / "))
        for at in range(1000):
            character = chance.choice("abAE123")
            line = chance.choice([f"put 0 {character}", "cut 0 1", "undo", "redo", f"replace {character} b",
                                  f"find {character}", f"lacks {character}", f"accepts .*{character}", "show", "change",
                                  "rows", "formed", "same a aa"])
            try:
                console.run(line)
            except (TextError, LookupError):
                pass
        self.assertEqual(len(console.run_all(["show"] * 40)), 40)

    def test_each_command_over_long_texts(self):
        for table, text in texts_with_many_rests():
            console = Console()
            console.run("table " + str(table).replace("\n", " / "))
            console.run_all([f"text {text}", "count", "variant 10", "shortest", f"find {text}", f"lacks {text}",
                             f"match .*{text[-1]}.", f"spell {text[0]}", f"unspelled {text[0]}", "closed .*.a",
                             f"same {text} {text[1:]}", f"forms {text}", "cut 0 1", "undo"] * 2)
