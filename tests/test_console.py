import random
import unittest

from canontext import errors
from canontext.buffers import Buffer
from canontext.composing import composed, formed
from canontext.console import Console
from canontext.forms import first_difference
from canontext.matching import some_variant
from canontext.patterns import Pattern, closure_gap
from canontext.revisions import spelled, unspelled
from canontext.search import absence, occurrences, replaced
from canontext.soundness import decomposed
from canontext.tables import Table
from canontext.variants import Variants
from tests.values import any_values, example, sound_tables

ROWS = "A 0 = au / a 0 / u 1 / v 2"

ASKING = ["show", "rows", "change", "forms aA", "same a A", "count", "variant 0", "shortest", "find u", "lacks u",
          "accepts a.*", "match a.*", "closed a.*", "formed", "spell auv", "unspelled auv"]


def console_of(*lines):
    """A console over the table of the example behind point 134 that has run some lines."""
    console = Console()
    console.run("table " + ROWS)
    for line in lines:
        console.run(line)
    return console


def answers_of(console):
    """All that a console tells about its state, with what `undo` and `redo` do in a clone."""
    told = [console.table, console.text, console.form]
    for line in ASKING:
        try:
            told.append(console.run(line))
        except (errors.TextError, errors.Absent) as error:
            told.append((type(error), list(vars(error).values())))
    for line in ("undo", "redo"):
        other = console.clone()
        try:
            while True:
                told.append([line, other.run(line), other.text, other.run("change")])
        except errors.Absent as error:
            told.append(type(error))
    return told


class ConsoleCase(unittest.TestCase):
    def expect(self, error, told, function, *values, **named):
        with self.assertRaises(error) as caught:
            function(*values, **named)
        self.assertIs(type(caught.exception), error)
        attributes = list(vars(caught.exception).values())
        self.assertEqual(len(attributes), len(told))
        for attribute, value in zip(attributes, told):
            self.assertEqual((attribute, type(attribute)), (value, type(value)))


class LineTest(ConsoleCase):
    def test_example_of_point_134(self):
        console = Console()
        self.assertEqual(console.run_all(["table A 0 = au / a 0 / u 1 / v 2", "text auv", "put 2 u", "change", "show",
                                          "count", "find v"]),
                         ["ok", "Av", "Auv", "1 - u", "auuv Auv", "5", "a uu / au u / auu -"])
        self.assertEqual([console.run("variant 0"), console.run("match a.*"), console.run("undo"),
                          console.run("same Av avu")], ["Auv", "auuv", "Av", "yes"])

    def test_a_new_console(self):
        console = Console()
        self.assertEqual([console.table == Table({"a": 0}), console.text, console.form], [True, "", ""])
        self.assertEqual([console.run(line) for line in ("show", "rows", "change", "count", "formed", "text aa")],
                         ["- -", "a 0", "none", "1", "a", "aa"])

    def test_what_is_no_line(self):
        console = console_of("text auv", "put 2 u", "undo")
        kept = answers_of(console)
        wrong = ["", " ", "-", "a", "show ", " show", "show -", "Show", "SHOW", "show\n", "\nshow", "shows", "sho w",
                 "table", "tables a 0", "table\na 0", "table a 0\n", "table \n", "\ttable a 0", " table a 0",
                 "text", "text ", "text a ", "text  a", " text a", "text a a", "text a\n", "text\na", "text\ta",
                 "edit 0 1", "edit 0 1 a a", "edit 0  1 a", "edit 0 1 ", "edit 0 1", "edit a 1 a", "edit 0 b a",
                 "edit -1 1 a", "edit 0 -1 a", "edit 00 1 a", "edit 0 01 a", "edit +0 1 a", "edit 0 1. a", "edit - 1 a",
                 "edit 0_0 1 a", "edit 0 " + "1" * 31 + " a", "edit 1e1 2 a", "put 0", "put a", "put 01 a", "put 0 a b",
                 "put 0  a", "put 0 ", "cut 0", "cut 0 1 a", "cut 0 01", "cut 0 x", "cut 0 1 ", "undo 1", "undo ",
                 "undo -",
                 "redo 1", "redo ", "replace a", "replace a  u", "replace a u v", "replace  u", "rows 1", "change ",
                 "forms", "forms a u", "forms ", "same a", "same a u v", "same  a", "same a ", "count 1", "count ",
                 "variant", "variant ", "variant a", "variant 00", "variant 01", "variant -1", "variant 0 0",
                 "variant " + "1" * 31, "variant " + "0" * 2, "variant -", "shortest 1", "find", "find ", "find a u",
                 "lacks", "lacks a u", "lacks ", "accepts", "accepts a u", "accepts ", "match", "match ", "match a | u",
                 "closed", "closed a b", "closed ", "formed a", "formed ", "spell", "spell a u", "spell ", "unspelled",
                 "unspelled a u", "unspelled ", "help", "clone", "run show", "text\x0ba", "variant \u0661",
                 "variant \u00b2"]
        for value in wrong + any_values() + [["show"], ("show",), console, {"show": 1}, b"show"]:
            with self.assertRaises(errors.InvalidCommand) as caught:
                console.run(value)
            self.assertIs(type(caught.exception), errors.InvalidCommand)
            self.assertIs(caught.exception.value, value)
            with self.assertRaises(errors.InvalidCommand) as caught:
                console.run(line=value)
            self.assertIs(caught.exception.value, value)
        self.assertEqual(answers_of(console), kept)

    def test_any_words(self):
        console = console_of("text auv")
        for line, error, told in (
            ("text a?", errors.InvalidText, ["a?"]),
            ("text --", errors.InvalidText, ["--"]),
            ("text b", errors.InvalidText, ["b"]),
            ("put 0 a-", errors.InvalidText, ["a-"]),
            ("forms /", errors.InvalidText, ["/"]),
            ("find table", errors.InvalidText, ["table"]),
            ("accepts --", errors.InvalidSyntax, [0]),
            ("match /", errors.InvalidSyntax, [0]),
            ("closed a\"", errors.InvalidSyntax, [1]),
            ("spell -a", errors.InvalidCharacters, ["-a"]),
            ("unspelled aa", errors.InvalidCharacters, ["aa"]),
        ):
            self.expect(error, told, console.run, line)

    def test_numbers(self):
        console = console_of("text auv")
        many = "9" * 30
        for line, error, told in (
            ("variant " + many, errors.UnknownIndex, [int(many)]),
            (f"put {many} a", errors.InvalidRange, [(int(many), int(many))]),
            (f"edit 0 {many} a", errors.InvalidRange, [(0, int(many))]),
            (f"cut {many} 1", errors.InvalidRange, [(int(many), 1)]),
            ("variant 3", errors.UnknownIndex, [3]),
            ("cut 2 1", errors.InvalidRange, [(2, 1)]),
            ("edit 4 4 b", errors.InvalidRange, [(4, 4)]),
        ):
            self.expect(error, told, console.run, line)
        found = [console.run(line) for line in ("variant 0", "put 0 a", "variant 2")]
        self.assertEqual(found, ["Av", "aAv", "aavu"])


class ChangingTest(ConsoleCase):
    def test_table(self):
        console = console_of("text auv", "put 0 a")
        self.assertEqual(console.run("table b 0"), "ok")
        self.assertEqual([console.table == Table({"b": 0}), console.text, console.form, console.run("change")],
                         [True, "", "", "none"])
        for line in ("undo", "redo"):
            self.expect(errors.NothingToUndo if line == "undo" else errors.NothingToRedo, [], console.run, line)

    def test_rows(self):
        for table in sound_tables():
            console = Console()
            rows = str(table).replace("\n", " / ")
            self.assertEqual([console.run("table " + rows), console.table == table, console.run("rows")],
                             ["ok", True, rows])
            lines = str(table).split("\n")
            console.run("table " + " / ".join(reversed(lines)))
            self.assertEqual(console.run("rows"), rows)

    def test_wrong_rows(self):
        console = console_of("text auv", "put 2 u", "undo")
        kept = answers_of(console)
        for rows, error, told in (
            ("", errors.InvalidLine, [0]),
            (" ", errors.InvalidLine, [0]),
            ("a", errors.InvalidLine, [0]),
            ("-", errors.InvalidLine, [0]),
            ("a 0 ", errors.InvalidLine, [0]),
            (" a 0", errors.InvalidLine, [0]),
            ("a  0", errors.InvalidLine, [0]),
            ("a 0 / ", errors.InvalidLine, [1]),
            (" / a 0", errors.InvalidLine, [0]),
            (" / ", errors.InvalidLine, [0]),
            ("a 0 /", errors.InvalidLine, [0]),
            ("a 0/ b 0", errors.InvalidLine, [0]),
            ("a 0 /b 0", errors.InvalidLine, [0]),
            ("a 0 / / b 0", errors.InvalidLine, [1]),
            ("a 0 /  / b 0", errors.InvalidLine, [1]),
            ("a 0 / b 0 / a 0", errors.InvalidLine, [2]),
            ("a 0 // b 0", errors.InvalidLine, [0]),
            ("a 0 = b", errors.InvalidDecomposition, ["b"]),
            ("a 0 = / / b 0", errors.InvalidLine, [0]),
            ("a 0 = a", errors.Cyclic, ["a"]),
            ("u 1 / A 0 = u", errors.Mixed, ["A"]),
            ("a 0 / A 0 = aa / B 0 = aa", errors.Ambiguous, ["A", "B"]),
            ("u 1 / v 2 / x 2 / W 1 = xu", errors.Unsound, ["W", "v"]),
        ):
            self.expect(error, told, console.run, "table " + rows)
        rows = " / ".join([f"{character} 0" for character in "ABCDEFGHIJKLMNOPQRSTUVWXYZabcde"])
        self.expect(errors.TooMany, [31], console.run, "table " + rows)
        self.expect(errors.TooMany, [9], console.run, "table a 0 / A 0 = aa / B 0 = AA / C 0 = BB / D 0 = Ca")
        self.assertEqual(answers_of(console), kept)

    def test_text(self):
        console = console_of("text auv", "put 0 a")
        self.assertEqual([console.run("text avu"), console.text, console.form, console.run("change")],
                         ["Av", "avu", "Av", "none"])
        self.expect(errors.NothingToUndo, [], console.run, "undo")
        self.assertEqual([console.run("text -"), console.text, console.form], ["-", "", ""])
        self.expect(errors.InvalidText, ["a" * 61], console.run, "text " + "a" * 61)
        self.assertEqual(console.run("text " + "a" * 60), "a" * 60)

    def test_edits(self):
        console = console_of("text auv")
        for line, form, text in (
            ("edit 0 1 aa", "aAv", "aauv"), ("put 4 u", "aAuv", "aauvu"), ("cut 0 2", "uuv", "uvu"),
            ("cut 0 3", "-", ""),
            ("undo", "uuv", "uvu"), ("undo", "aAuv", "aauvu"), ("redo", "uuv", "uvu"), ("put 0 -", "uuv", "uvu"),
            ("edit 1 3 -", "u", "u"), ("edit 0 0 vv", "uvv", "vvu"), ("edit 0 3 -", "-", ""), ("put 0 A", "A", "A"),
        ):
            self.assertEqual([console.run(line), console.text], [form, text])
            self.assertEqual(console.form, "" if form == "-" else form)

    def test_edits_that_are_refused(self):
        console = console_of("text " + "a" * 59, "put 0 u", "undo")
        kept = answers_of(console)
        for line, error, told in (
            ("edit 1 0 ?", errors.InvalidRange, [(1, 0)]),
            ("edit 0 60 a", errors.InvalidRange, [(0, 60)]),
            ("edit 0 1 aB", errors.InvalidText, ["aB"]),
            ("edit 0 1 aaa", errors.TooMany, [61]),
            ("put 60 ?", errors.InvalidRange, [(60, 60)]),
            ("put 0 " + "a" * 61, errors.InvalidText, ["a" * 61]),
            ("put 59 auv", errors.TooMany, [62]),
            ("cut 0 60", errors.InvalidRange, [(0, 60)]),
            ("replace - a", errors.InvalidText, [""]),
            ("replace ? ?", errors.InvalidText, ["?"]),
            ("replace a ?", errors.InvalidText, ["?"]),
            ("replace a aa", errors.InvalidText, ["a" * 118]),
        ):
            self.expect(error, told, console.run, line)
        self.assertEqual(answers_of(console), kept)
        self.assertEqual(console.run("redo"), "u" + "a" * 59)
        self.expect(errors.NothingToRedo, [], console.run, "redo")
        self.assertEqual(console.run("undo"), "a" * 59)
        self.expect(errors.NothingToUndo, [], console.run, "undo")

    def test_replace(self):
        console = console_of("text Auv")
        for line, form, text in (
            ("replace u v", "avvv", "avvv"), ("replace v u", "Auu", "auuu"), ("replace A -", "uu", "uu"),
            ("replace uu -", "-", ""), ("undo", "uu", "uu"), ("replace u A", "AA", "auau"),
        ):
            self.assertEqual([console.run(line), console.text], [form, text])

    def test_replace_what_does_not_occur(self):
        console = console_of("text Avu")
        self.assertEqual([console.run("replace aa u"), console.text, console.run("change")], ["Auv", "auuv", "3 - -"])
        self.assertEqual([console.run("replace aa u"), console.run("undo"), console.text], ["Auv", "Auv", "Avu"])
        self.expect(errors.NothingToUndo, [], console.run, "undo")
        console.run("text " + "A" * 31)
        self.expect(errors.InvalidText, ["au" * 31], console.run, "replace v u")
        self.expect(errors.NothingToUndo, [], console.run, "undo")
        self.assertEqual(console.text, "A" * 31)


class AskingTest(ConsoleCase):
    def test_nothing_changes(self):
        console = console_of("text auv", "put 2 u", "undo")
        kept = answers_of(console)
        for line in ASKING:
            self.assertIs(type(console.run(line)), str)
        for line in ("find ?", "match (", "variant 9", "spell ??", "lacks ?", "same a ?", "forms ?"):
            with self.assertRaises((errors.TextError, errors.Absent)):
                console.run(line)
        self.assertEqual(answers_of(console), kept)

    def test_outputs(self):
        console = console_of("text vauvu")
        for line, output in (
            ("show", "vauvu vAuv"), ("rows", ROWS), ("forms Avu", "auuv Auv"), ("forms -", "- -"), ("same a a", "yes"),
            ("same - -", "yes"), ("same a u", "no 0 a u"), ("same a au", "no 1 - u"), ("same Au A", "no 2 u -"),
            ("same - a", "no 0 - a"), ("same au A", "yes"), ("count", "5"), ("variant 0", "vAuv"),
            ("variant 4", "vavuu"),
            ("shortest", "vAuv"), ("find a", "v uuv"), ("find av", "v uu"), ("find va", "- uuv"),
            ("find vvv", "none"), ("find au", "v uv"), ("find u", "va uv / vau v / vav u / vauv -"),
            ("find uuu", "none"),
            ("lacks u", "none"), ("lacks uuu", "0 run 0 1 / 1 run 0 1"), ("lacks aa", "0 short / 1 short"),
            ("lacks -", "none"), ("accepts v.*", "yes"), ("accepts -", "no"), ("accepts vA.*", "no"),
            ("match vA.*", "vAuv"),
            ("match .*u", "vAvu"), ("match u.*", "none"), ("match -", "none"), ("closed .*", "yes"), ("closed A", "no"),
            ("closed -", "yes"), ("formed", "Aauv"), ("spell auv", "vauuv"), ("spell vA", "none"),
            ("spell Auv", "vAuv"),
            ("spell -", "none"), ("unspelled auv", "none"), ("unspelled Auv", "a"), ("unspelled -", "A"),
            ("change", "none"),
        ):
            self.assertEqual(console.run(line), output, line)

    def test_the_empty_text(self):
        console = console_of("text a", "cut 0 1")
        for line, output in (
            ("show", "- -"), ("change", "0 a -"), ("count", "1"), ("variant 0", "-"), ("shortest", "-"),
            ("find -", "- -"),
            ("find a", "none"), ("lacks -", "none"), ("lacks a", "0 short"), ("lacks v", "0 run 0 2"),
            ("accepts -", "yes"),
            ("accepts a", "no"), ("match -", "-"), ("match a*", "-"), ("match a", "none"), ("spell -", "-"),
            ("spell a", "-"),
            ("undo", "a"), ("change", "0 - a"),
        ):
            self.assertEqual(console.run(line), output, line)

    def test_changes(self):
        console = console_of()
        for line, change in (("put 0 a", "0 - a"), ("put 1 u", "0 a A"), ("edit 0 2 A", "1 - -"), ("put 1 v", "1 - v"),
                             ("put 1 v", "2 - v"), ("cut 0 1", "0 A -"), ("undo", "0 - A"), ("redo", "0 A -")):
            console.run(line)
            self.assertEqual(console.run("change"), change, line)

    def test_too_many(self):
        console = Console()
        console.run("table " + " / ".join([f"{rank} {rank}" for rank in range(1, 10)]))
        console.run("text " + "123456789" * 6)
        total = 7 ** 9
        for line in ("count", "variant 0", "shortest", "match .*", "spell 1", "find -"):
            self.expect(errors.TooMany, [total], console.run, line)
        self.expect(errors.InvalidSyntax, [1], console.run, "match (")
        self.expect(errors.InvalidCharacters, ["11"], console.run, "spell 11")
        self.assertEqual([console.run("lacks 1"), console.run("accepts .*"), console.run("unspelled 1")],
                         ["none", "yes", "2"])

    def test_against_the_functions(self):
        chance = random.Random(51)

        def dash(text):
            return text or "-"

        def none(text):
            return "none" if text is None else dash(text)

        for table in sound_tables():
            console = Console()
            console.run("table " + str(table).replace("\n", " / "))
            for _ in range(12):
                text, one, other = ["".join(chance.choices(table.characters, k=chance.randint(0, 4))) for _ in range(3)]
                listed = "".join(chance.sample(table.characters, chance.randint(0, len(table))))
                patterns = [".*", one, f"{one[:3]}|.*{other}", f"({one})*.?", f"[{listed}]*" if listed else ""]
                written = chance.choice(patterns)
                pattern = Pattern(table, written)
                variants = Variants(table, text)
                index = chance.randrange(variants.variant_count)
                difference = first_difference(table, one, other)
                found = [f"{dash(x)} {dash(z)}" for x, z in occurrences(table, text, one)]
                lacks = absence(table, text, one)
                for line, output in (
                    (f"text {dash(text)}", dash(composed(table, text))),
                    ("show", f"{dash(text)} {dash(composed(table, text))}"),
                    (f"forms {dash(one)}", f"{dash(decomposed(table, one))} {dash(composed(table, one))}"),
                    (f"same {dash(one)} {dash(other)}", "yes" if difference is None else " ".join(
                        ["no", str(difference[0]), dash(difference[1]), dash(difference[2])])),
                    ("count", str(variants.variant_count)),
                    (f"variant {index}", dash(variants[index])),
                    ("shortest", dash(variants.shortest())),
                    (f"find {dash(one)}", " / ".join(found) or "none"),
                    (f"lacks {dash(one)}", "none" if lacks is None else " / ".join(
                        [" ".join(map(str, reason)) for reason in lacks])),
                    (f"accepts {dash(written)}", "yes" if pattern(text) else "no"),
                    (f"match {dash(written)}", none(some_variant(pattern, text))),
                    (f"closed {dash(written)}", "yes" if closure_gap(pattern) is None else "no"),
                    ("formed", formed(table)),
                    (f"spell {dash(listed)}", none(spelled(table, text, listed))),
                    (f"unspelled {dash(listed)}", none(unspelled(table, listed))),
                ):
                    self.assertEqual(console.run(line), output, (str(table), text, line))
                buffer = Buffer(table, text)
                buffer.put(0, one)
                self.assertEqual(console.run(f"put 0 {dash(one)}"), dash(buffer.form))
                expected = replaced(table, buffer.text, other, one) if other else "?" * 61
                if len(expected) <= 60:
                    self.assertEqual(console.run(f"replace {other} {dash(one)}"), dash(composed(table, expected)))
                    buffer.edit(0, len(buffer.text), expected)
                change = buffer.last_change
                self.assertEqual(console.run("change"), "none" if change is None else
                                 f"{change[0]} {dash(change[1])} {dash(change[2])}")
                self.assertEqual([console.text, console.form], [buffer.text, buffer.form])


class RunAllTest(ConsoleCase):
    def test_outputs(self):
        console = console_of()
        self.assertEqual(console.run_all([]), [])
        self.assertEqual(console.run_all(()), [])
        self.assertEqual(console.run_all(("text a", "put 1 u", "undo", "redo")), ["a", "A", "a", "A"])
        self.assertEqual(console.run_all(lines=["show"]), ["au A"])
        self.assertEqual(console.run("undo"), "a")

    def test_forty_lines(self):
        console = console_of()
        self.assertEqual(console.run_all(["put 0 a"] * 40), ["a" * count for count in range(1, 41)])
        for lines in (["put 0 a"] * 41, ("show",) * 41, ["?"] * 2000):
            with self.assertRaises(errors.InvalidCommand) as caught:
                console.run_all(lines)
            self.assertIs(caught.exception.value, lines)
        self.assertEqual(console.text, "a" * 40)
        for _ in range(40):
            console.run("undo")
        self.assertEqual(console.text, "")

    def test_what_is_no_list(self):
        console = console_of("text au")
        for value in [one for one in any_values() if not isinstance(one, (list, tuple))] + ["show", "", console]:
            with self.assertRaises(errors.InvalidCommand) as caught:
                console.run_all(value)
            self.assertIs(caught.exception.value, value)

    def test_one_error_and_all_is_as_before(self):
        console = console_of("text auv", "put 2 u", "cut 0 1", "undo")
        kept = answers_of(console)
        for lines, error, told in (
            (["put 0 a", "undo", "undo", "undo", "undo"], errors.NothingToUndo, []),
            (["undo", "put 0 A", "redo"], errors.NothingToRedo, []),
            (["redo", "redo"], errors.NothingToRedo, []),
            (["table b 0", "text b", "text a"], errors.InvalidText, ["a"]),
            (["table b 0", "table u 1 / v 2 / x 2 / W 1 = xu"], errors.Unsound, ["W", "v"]),
            (["text a", "put 0 u", "show x"], errors.InvalidCommand, ["show x"]),
            (["cut 0 4", "variant 1"], errors.UnknownIndex, [1]),
            (("text a", None), errors.InvalidCommand, [None]),
            (["replace u a", "match ("], errors.InvalidSyntax, [1]),
        ):
            before = list(lines)
            self.expect(error, told, console.run_all, lines)
            self.assertEqual(list(lines), before)
            self.assertEqual(answers_of(console), kept)
        item = ["show"]
        with self.assertRaises(errors.InvalidCommand) as caught:
            console.run_all(["undo", item, "?"])
        self.assertIs(caught.exception.value, item)
        self.assertEqual(answers_of(console), kept)
        self.assertEqual([console.run("redo"), console.run("undo"), console.run("undo")], ["uuv", "Auv", "Av"])

    def test_undo_behind_a_failed_call_to_both_ends(self):
        console = console_of("put 0 a", "put 1 u", "put 2 v", "undo")
        with self.assertRaises(errors.NothingToUndo):
            console.run_all(["undo"] * 3)
        self.assertEqual([console.text, console.run("redo"), console.run("change")], ["au", "Av", "1 - v"])
        self.expect(errors.NothingToRedo, [], console.run, "redo")
        self.assertEqual([console.run("undo"), console.run("undo"), console.run("undo")], ["A", "a", "-"])
        self.expect(errors.NothingToUndo, [], console.run, "undo")
        self.assertEqual(console.run_all(["redo"] * 3), ["a", "A", "Av"])

    def test_lists_are_new(self):
        console = console_of("text a")
        console.run_all(["show"]).clear()
        self.assertEqual(console.run_all(["show"]), ["a a"])


class CloneTest(ConsoleCase):
    def test_the_same_state(self):
        console = console_of("text auv", "put 2 u", "cut 0 1", "undo")
        for other in (console.clone(), console.clone().clone()):
            self.assertIs(type(other), Console)
            self.assertEqual(answers_of(other), answers_of(console))
            self.assertEqual([other.run("redo"), other.run("change")], ["uuv", "0 A u"])
            self.assertEqual([other.run("undo"), other.run("undo")], ["Auv", "Av"])
            self.expect(errors.NothingToUndo, [], other.run, "undo")

    def test_independent(self):
        console = console_of("text auv", "put 2 u", "undo")
        kept = answers_of(console)
        other = console.clone()
        other.run("redo")
        self.assertEqual(answers_of(console), kept)
        other.run("put 0 a")
        third = other.clone()
        other.run_all(["undo", "undo"])
        self.assertEqual([third.run("undo"), third.run("undo")], ["Auv", "Av"])
        other.run("table b 0")
        self.assertEqual(answers_of(console), kept)
        copied = console.clone()
        console.run("text a")
        self.assertEqual(answers_of(copied), kept)
        self.assertEqual([other.text, other.run("rows")], ["", "b 0"])

    def test_random_lines_in_clones(self):
        chance = random.Random(52)
        lines = ["undo", "redo", "undo", "put 0 a", "put 0 u", "cut 0 1", "replace u v", "text auv", "edit 0 1 A",
                 "put 1 v", "show", "change", "table " + ROWS, "variant 7"]
        consoles = [console_of()]
        for _ in range(400):
            console = chance.choice(consoles)
            other = console.clone()
            self.assertEqual(answers_of(other), answers_of(console))
            kept = answers_of(console)
            line = chance.choice(lines[:-2] * 3 + lines)
            results = []
            for one in (other, console):
                try:
                    results.append(one.run(line))
                except (errors.TextError, errors.Absent) as error:
                    results.append((type(error), list(vars(error).values())))
                    self.assertEqual(answers_of(one), kept)
            self.assertEqual(results[0], results[1])
            self.assertEqual(answers_of(other), answers_of(console))
            consoles = (consoles + [other])[-4:]

    def test_properties(self):
        console = console_of("text avu")
        self.assertEqual([console.table, console.text, console.form],
                         [Table.from_text(ROWS.replace(" / ", "\n")), "avu", "Av"])
        self.assertNotEqual(console.table, example())
        for name in ("table", "text", "form"):
            with self.assertRaises(AttributeError):
                setattr(console, name, "a")
