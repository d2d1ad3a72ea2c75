import random

from canontext.buffers import Buffer
from canontext.errors import TooMany
from canontext.patterns import Pattern, closure_gap, is_gap
from canontext.rests import rest_count
from canontext.search import absence, is_absence, occurrence_count, occurrences, occurs, replaced
from canontext.soundness import decomposed
from canontext.streams import Stream, streamed
from canontext.tables import Table
from tests.limits import TimedCase, bases_and_marks, doubled_marks, mixed_marks


def all_tables():
    return [bases_and_marks(), doubled_marks(), mixed_marks()]


def hard_texts(table):
    """Texts of sixty characters with as many atoms as there can be, with few bases and with many."""
    longest = [character for character in table.characters if len(table.atoms(character)) == 8]
    return [longest[0] * 60, longest[-1] * 60, (longest[0] + table.characters[0]) * 30, (table.characters * 2)[:60]]


class StreamLimitsTest(TimedCase):
    def test_as_many_pieces_as_a_list_has(self):
        for table in all_tables():
            for text in hard_texts(table):
                returned = streamed(table, [text] * 2100)
                self.assertEqual(len(returned), 2101)

    def test_all_is_asked_for_behind_each_piece(self):
        for table in all_tables():
            for text in hard_texts(table):
                stream = Stream(table)
                for _ in range(100):
                    stream(text)
                    self.assertIs(stream.changer() is None, stream.held == "")
                self.assertEqual(len(stream.given), 6000)
                self.assertEqual(len(stream.pieces), 100)


class BufferLimitsTest(TimedCase):
    def test_a_thousand_edits(self):
        chance = random.Random(7)
        for table in all_tables():
            buffer = Buffer(table, hard_texts(table)[0])
            for _ in range(1000):
                at = chance.randrange(60)
                buffer.edit(at, at + 1, chance.choice(table.characters))
            self.assertIs(type(buffer.last_change), tuple)
            text = buffer.text
            for _ in range(500):
                buffer.undo()
            for _ in range(500):
                buffer.redo()
            self.assertEqual(buffer.text, text)
            self.assertTrue(buffer == Buffer(table, buffer.text))

    def test_in(self):
        for table in all_tables():
            for text in hard_texts(table):
                buffer = Buffer(table, text)
                if rest_count(table, text) > 2000:
                    with self.assertRaises(TooMany):
                        text in buffer
                else:
                    self.assertIs(text in buffer, True)
                    self.assertIs(text[:59] in buffer, True)


class SearchLimitsTest(TimedCase):
    def check(self, table, text, part):
        total = occurrence_count(table, text, part)
        self.assertIs(occurs(table, text, part), total > 0)
        if total > 2000:
            with self.assertRaises(TooMany) as caught:
                occurrences(table, text, part)
            self.assertEqual(caught.exception.total, total)
        else:
            self.assertEqual(len(occurrences(table, text, part)), total)
        found = absence(table, text, part)
        self.assertIs(found is None, total > 0)
        if found is not None:
            self.assertIs(is_absence(table, text, part, found), True)
        if part:
            self.assertEqual(replaced(table, text, part, part), decomposed(table, text))
            self.assertLessEqual(len(replaced(table, text, part, text[:20])), 480 * 480)

    def test_long_parts(self):
        for table in all_tables():
            for text in hard_texts(table):
                for part in ("", text[:1], text[:30], text, text[:30] + table.characters[-1], table.characters[0]):
                    self.check(table, text, part)

    def test_long_bases_that_nearly_fit(self):
        table = bases_and_marks()
        for part in ("E" * 30 + "1", "1" + "E" * 30, "E" * 30 + "b", "E" * 15 + "F" + "E" * 14, "aaa", "a" * 60):
            self.check(table, "E" * 60, part)
        self.check(table, "L" * 60, "L" * 30 + "M")

    def test_values_that_are_no_reasons(self):
        table = bases_and_marks()
        for value in ([(at, "short") for at in range(2100)], [(0, "run", 0, 1)] * 481, [(480, "base", 1)] * 481):
            self.assertIs(is_absence(table, "E" * 60, "Eb", value), False)


class PatternLimitsTest(TimedCase):
    PATTERNS = (".*1......", "(.1|2.)*3.4.", "(1?2?3?4?5?6?7?8?)*", "[12]*1[12][12][12][12][12][12]",
                "(.*1.2.*3.4)*", "((1|2.)*(3.|4)+.|5)*", "(" * 20 + "1*" + ")" * 20 + "*" * 3958)

    def test_many_states(self):
        for pattern in self.PATTERNS:
            for table in [bases_and_marks(), Table({str(rank): rank for rank in range(1, 10)})]:
                found = Pattern(table, pattern)
                self.assertLessEqual(len(found), 257)
                gap = closure_gap(found)
                self.assertIs(gap is None or is_gap(found, gap), True)
                self.assertTrue(found == Pattern(table, pattern))

    def test_tables_of_thirty_characters(self):
        for table in all_tables():
            one, other = table.characters[0], table.characters[-1]
            for text in (f".*{one}......", f"[^{one}]*{other}......", f"(.{one}|{other}.)*{one}.{other}."):
                pattern = Pattern(table, text)
                gap = closure_gap(pattern)
                self.assertIs(gap is None or is_gap(pattern, gap), True)
                self.assertIs(pattern.state_after(one * 60) in pattern.accepting(), pattern(one * 60))
