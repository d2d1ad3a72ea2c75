import os.path
import random
import unittest

from canontext.buffers import Buffer
from canontext.composing import composed
from canontext.patterns import Pattern, closure_gap, is_gap
from canontext.search import absence, is_absence, occurrence_count, occurrences, occurs, replaced
from canontext.soundness import decomposed
from canontext.streams import Stream, streamed
from tests.test_guarantees import random_cases
from tests.values import steps_from, texts_up_to
from tests.ways import accepts, random_tree, written


class SearchGuaranteesTest(unittest.TestCase):
    """What point 10 promises of streams, buffers, search and patterns, over random tables."""

    @classmethod
    def setUpClass(cls):
        cls.cases = list(random_cases())

    def cut(self, chance, text):
        """A text in pieces, some of them empty."""
        at = sorted(chance.choices(range(len(text) + 1), k=chance.randint(0, 4)))
        return [text[start:stop] for start, stop in zip([0] + at, at + [len(text)])]

    def test_a_stream_returns_the_form_of_the_whole_text_however_it_is_cut(self):
        chance = random.Random(1)
        for table, text, texts, other in self.cases:
            for one in [text, text + other] + texts[:4]:
                pieces = self.cut(chance, one)
                self.assertEqual("".join(streamed(table, pieces)), composed(table, one))
                self.assertEqual("".join(streamed(table, pieces, composed=False)), decomposed(table, one))

    def test_each_character_as_soon_as_nothing_can_change_it(self):
        chance = random.Random(2)
        for table, text, _, other in self.cases:
            for is_composed, form in ((True, composed), (False, decomposed)):
                stream = Stream(table, composed=is_composed)
                given = ""
                for piece in self.cut(chance, text + other):
                    stream(piece)
                    given += piece
                    forms = [form(table, given)] + [form(table, given + one) for one in table.characters]
                    final = os.path.commonprefix(forms)
                    self.assertEqual(("".join(stream.pieces), stream.held), (final, forms[0][len(final):]))
                    beginning = forms[0][:len(final) + 1]
                    changers = [one for one in table.characters if stream.held
                                and not form(table, given + one).startswith(beginning)]
                    self.assertEqual(stream.changer(), changers[0] if changers else None)
                    self.assertEqual(bool(changers), stream.held != "")

    def test_no_text_that_follows_changes_what_was_returned(self):
        chance = random.Random(3)
        for table, text, _, other in self.cases:
            stream = Stream(table)
            stream(text)
            final = "".join(stream.pieces)
            for _ in range(5):
                more = "".join(chance.choices(table.characters, k=chance.randint(1, 8)))
                self.assertTrue(composed(table, text + more).startswith(final))

    def test_a_buffer_has_the_form_of_a_new_one(self):
        chance = random.Random(4)
        for table, text, texts, other in self.cases:
            buffer = Buffer(table, text)
            start = chance.randint(0, len(text))
            stop = chance.randint(start, len(text))
            buffer.edit(start, stop, other)
            self.assertEqual(buffer.form, Buffer(table, text[:start] + other + text[stop:]).form)
            if buffer.text != text:
                buffer.undo()
            self.assertEqual(buffer.form, composed(table, text))
            self.assertIs(buffer == Buffer(table, texts[-1][:60]), len(texts[-1]) <= 60)

    def test_occurrences_are_those_that_steps_lead_to(self):
        for table, text, texts, other in self.cases:
            part = other[:2]
            form = decomposed(table, part)
            found = {
                (decomposed(table, one[:start]), decomposed(table, one[stop:]))
                for one in texts for start in range(len(one) + 1) for stop in range(start, len(one) + 1)
                if decomposed(table, one[start:stop]) == form
            }
            ordered = sorted(found, key=lambda pair: (len(pair[0]), pair[0]))
            self.assertEqual(occurrences(table, text, part), ordered)
            self.assertEqual(occurrence_count(table, text, part), len(found))
            self.assertIs(occurs(table, text, part), len(found) > 0)
            self.assertIs(part in Buffer(table, text), len(found) > 0)

    def test_what_absence_returns_is_accepted_exactly_if_there_is_no_occurrence(self):
        for table, text, texts, other in self.cases:
            for part in (other, other[:1], text[1:3], text[::-1]):
                found = absence(table, text, part)
                self.assertIs(found is None, occurs(table, texts[0], part))
                if found is not None:
                    self.assertIs(is_absence(table, texts[-1], part, found), True)

    def test_equivalent_texts_give_equal_replacements(self):
        for table, text, texts, other in self.cases:
            part = (other + text)[:1]
            if part:
                found = {replaced(table, one, part, other) for one in texts[:6] + [text]}
                self.assertEqual(len(found), 1)

    def test_a_pattern_without_a_gap_accepts_all_equivalent_texts_or_none(self):
        chance = random.Random(5)
        for table, _, texts, _ in self.cases:
            tree = random_tree(chance, table.characters, 3)
            pattern = Pattern(table, written(tree))
            gap = closure_gap(pattern)
            accepted = {accepts(tree, one) for one in texts}
            if gap is None:
                self.assertEqual(len(accepted), 1)
                for one in texts_up_to(table, 2):
                    for other in steps_from(table, one):
                        self.assertIs(pattern(one), pattern(other))
            else:
                self.assertIs(is_gap(pattern, gap), True)
                self.assertIsNot(accepts(tree, gap[0] + gap[1] + gap[3]), accepts(tree, gap[0] + gap[2] + gap[3]))
