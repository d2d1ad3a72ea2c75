import random

from canontext import errors
from canontext.buffers import Buffer
from canontext.composing import composed
from canontext.rests import rest_count, rests
from canontext.soundness import decomposed
from canontext.tables import Table
from tests.cases import ErrorCase
from tests.values import any_values, equivalent_texts, example, no_integers, sound_tables, texts_up_to, unsound

NO_CHOICES = [value for value in any_values() if value is not True and value is not False] + [1, 0, "a"]


def example_of_buffers():
    """The table of the example behind point 84."""
    return Table({"a": 0, "P": 0, "m": 1}, decompositions={"P": "aa"})


def state_of(buffer):
    """All that a buffer tells about itself."""
    return [buffer.text, buffer.form, buffer.last_change, len(buffer), [buffer[at] for at in range(len(buffer))]]


def change_of(before, after):
    """How one string changes to another one, by trying all beginnings and ends."""
    starts = [n for n in range(min(len(before), len(after)) + 1) if before[:n] == after[:n]]
    old, new = before[starts[-1]:], after[starts[-1]:]
    ends = [n for n in range(min(len(old), len(new)) + 1) if old[len(old) - n:] == new[len(new) - n:]]
    return starts[-1], old[:len(old) - ends[-1]], new[:len(new) - ends[-1]]


class BufferCase(ErrorCase):
    def expect_range(self, start, stop, function, *values):
        """Check that a call raises InvalidRange with a tuple of these very values."""
        with self.assertRaises(errors.InvalidRange) as caught:
            function(*values)
        self.assertIs(type(caught.exception.value), tuple)
        self.assertEqual(len(caught.exception.value), 2)
        self.assertIs(caught.exception.value[0], start)
        self.assertIs(caught.exception.value[1], stop)


class ConstructorTest(BufferCase):
    def test_example_of_point_84(self):
        table = example_of_buffers()
        buffer = Buffer(table, "aaaam")
        buffer.put(0, "a")
        self.assertEqual([buffer.form, buffer.last_change, len(buffer), buffer[0], "aP" in buffer],
                         ["PPam", (2, "", "a"), 4, "P", True])
        buffer.undo()
        self.assertEqual([buffer.form, buffer.last_change, buffer == Buffer(table, "Paam")],
                         ["PPm", (2, "a", ""), True])

    def test_defaults_and_names(self):
        table = example_of_buffers()
        self.assertEqual(state_of(Buffer(table)), ["", "", None, 0, []])
        self.assertEqual(state_of(Buffer(text="aam", table=table)), ["aam", "Pm", None, 2, ["P", "m"]])
        self.assertEqual(state_of(Buffer(composed=False, text="Pm", table=table)),
                         ["Pm", "aam", None, 3, ["a", "a", "m"]])
        with self.assertRaises(TypeError):
            Buffer(table, "", True)

    def test_errors_in_order(self):
        for value in any_values() + ["a", [example()]]:
            self.expect(errors.InvalidTable, [value], Buffer, value)
            self.expect(errors.InvalidTable, [value], Buffer, value, "?", composed=1)
        for text in ("u", "?", None):
            with self.assertRaises(errors.Unsound) as caught:
                Buffer(unsound(), text, composed=1)
            self.assertEqual((caught.exception.first, caught.exception.second), ("W", "v"))
        table = example_of_buffers()
        for value in any_values() + ["b", "a" * 61, table]:
            self.expect(errors.InvalidText, [value], Buffer, table, value)
            self.expect(errors.InvalidText, [value], Buffer, table, text=value, composed=1)
        for value in NO_CHOICES:
            self.expect(errors.InvalidChoice, [value], Buffer, table, "a", composed=value)
            self.expect(errors.InvalidChoice, [value], Buffer, table, composed=value)

    def test_texts_of_sixty_characters(self):
        buffer = Buffer(example_of_buffers(), "P" * 60)
        self.assertEqual((buffer.text, buffer.form, len(buffer)), ("P" * 60, "P" * 60, 60))
        self.assertEqual(len(Buffer(example_of_buffers(), "P" * 60, composed=False)), 120)


class EditTest(BufferCase):
    def test_edit_put_and_cut(self):
        buffer = Buffer(example_of_buffers(), "am")
        self.assertIsNone(buffer.edit(1, 2, "aa"))
        self.assertEqual((buffer.text, buffer.form), ("aaa", "Pa"))
        self.assertIsNone(buffer.put(3, "m"))
        self.assertEqual((buffer.text, buffer.form), ("aaam", "Pam"))
        self.assertIsNone(buffer.cut(0, 1))
        self.assertEqual((buffer.text, buffer.form), ("aam", "Pm"))
        self.assertIsNone(buffer.cut(stop=3, start=2))
        self.assertIsNone(buffer.put(text="m", index=0))
        self.assertIsNone(buffer.edit(text="P", stop=2, start=1))
        self.assertEqual((buffer.text, buffer.form), ("mPa", "mPa"))

    def test_all_ranges_of_a_text(self):
        table = example_of_buffers()
        for start in range(5):
            for stop in range(start, 5):
                for text in ("", "m", "aP"):
                    buffer = Buffer(table, "aPma")
                    buffer.edit(start, stop, text)
                    self.assertEqual(buffer.text, "aPma"[:start] + text + "aPma"[stop:])
                    self.assertEqual(buffer.form, composed(table, buffer.text))

    def test_wrong_ranges(self):
        buffer = Buffer(example_of_buffers(), "aam")
        kept = state_of(buffer)
        ranges = [(-1, 0), (0, -1), (-1, -1), (2, 1), (4, 4), (0, 4), (3, 4), (3, 2), (10 ** 29, 10 ** 29),
                  (-3, -1), (False, 1), (0, True), (True, True), (True, False)]
        ranges.extend([(value, 1) for value in no_integers()] + [(0, value) for value in no_integers()])
        for start, stop in ranges:
            self.expect_range(start, stop, buffer.edit, start, stop, "a")
            self.expect_range(start, stop, buffer.edit, start, stop, "?")
            self.expect_range(start, stop, buffer.edit, start, stop, None)
            self.expect_range(start, stop, buffer.edit, start, stop, "a" * 60)
            self.expect_range(start, stop, buffer.cut, start, stop)
            self.assertEqual(state_of(buffer), kept)
        for index in no_integers() + [-1, 4, True, False, 10 ** 29]:
            for text in ("a", "", "?", None, "a" * 61):
                self.expect_range(index, index, buffer.put, index, text)
        self.assertEqual(state_of(buffer), kept)
        self.expect(errors.NothingToUndo, [], buffer.undo)

    def test_wrong_texts(self):
        table = example_of_buffers()
        buffer = Buffer(table, "a" * 60)
        for value in any_values() + ["b", "a" * 61, table, ["a"]]:
            self.expect(errors.InvalidText, [value], buffer.edit, 0, 60, value)
            self.expect(errors.InvalidText, [value], buffer.edit, 60, 60, value)
            self.expect(errors.InvalidText, [value], buffer.put, 60, value)
        self.assertEqual(buffer.text, "a" * 60)
        self.expect(errors.NothingToUndo, [], buffer.undo)

    def test_too_many_characters(self):
        buffer = Buffer(example_of_buffers(), "a" * 58)
        for start, stop, text, total in ((0, 0, "mmm", 61), (58, 58, "P" * 60, 118), (0, 57, "a" * 60, 61),
                                         (10, 12, "a" * 5, 61)):
            with self.assertRaises(errors.TooMany) as caught:
                buffer.edit(start, stop, text)
            self.assertEqual(caught.exception.total, total)
            self.assertIs(type(caught.exception.total), int)
        with self.assertRaises(errors.TooMany) as caught:
            buffer.put(58, "aaa")
        self.assertEqual(caught.exception.total, 61)
        self.assertEqual(state_of(buffer), state_of(Buffer(example_of_buffers(), "a" * 58)))
        self.expect(errors.NothingToUndo, [], buffer.undo)
        buffer.put(58, "mm")
        self.assertEqual(len(buffer.text), 60)
        buffer.edit(0, 60, "P" * 60)
        self.assertEqual(buffer.text, "P" * 60)

    def test_an_edit_that_leaves_the_text_as_it_is(self):
        buffer = Buffer(example_of_buffers(), "am")
        for call in (lambda: buffer.edit(0, 2, "am"), lambda: buffer.edit(1, 1, ""), lambda: buffer.put(2, ""),
                     lambda: buffer.cut(1, 1), lambda: buffer.edit(0, 1, "a")):
            self.assertIsNone(call())
            self.assertIsNone(buffer.last_change)
            self.expect(errors.NothingToUndo, [], buffer.undo)
        buffer.put(0, "a")
        buffer.put(0, "a")
        buffer.undo()
        kept = state_of(buffer)
        buffer.edit(0, 3, "aam")
        buffer.cut(3, 3)
        buffer.put(0, "")
        self.assertEqual(state_of(buffer), kept)
        buffer.redo()
        self.assertEqual(buffer.text, "aaam")
        self.expect(errors.NothingToRedo, [], buffer.redo)
        buffer.undo()
        buffer.undo()
        self.expect(errors.NothingToUndo, [], buffer.undo)

    def test_a_text_that_is_equivalent_is_another_text(self):
        buffer = Buffer(example_of_buffers(), "Pm")
        buffer.edit(0, 1, "aa")
        self.assertEqual((buffer.text, buffer.form, buffer.last_change), ("aam", "Pm", (2, "", "")))
        buffer.undo()
        self.assertEqual((buffer.text, buffer.form, buffer.last_change), ("Pm", "Pm", (2, "", "")))


class UndoTest(BufferCase):
    def test_undo_and_redo(self):
        buffer = Buffer(example_of_buffers())
        self.expect(errors.NothingToUndo, [], buffer.undo)
        self.expect(errors.NothingToRedo, [], buffer.redo)
        for text in "aPm":
            buffer.put(len(buffer.text), text)
        self.assertIsNone(buffer.undo())
        self.assertEqual((buffer.text, buffer.last_change), ("aP", (2, "m", "")))
        buffer.undo()
        buffer.undo()
        self.expect(errors.NothingToUndo, [], buffer.undo)
        self.assertEqual((buffer.text, buffer.last_change), ("", (0, "a", "")))
        self.assertIsNone(buffer.redo())
        buffer.redo()
        buffer.redo()
        self.assertEqual((buffer.text, buffer.last_change), ("aPm", (2, "", "m")))
        self.expect(errors.NothingToRedo, [], buffer.redo)
        self.assertEqual((buffer.text, buffer.last_change), ("aPm", (2, "", "m")))

    def test_another_edit_ends_redo(self):
        buffer = Buffer(example_of_buffers())
        buffer.put(0, "a")
        buffer.put(0, "m")
        buffer.undo()
        buffer.put(0, "P")
        self.expect(errors.NothingToRedo, [], buffer.redo)
        buffer.undo()
        self.assertEqual(buffer.text, "a")
        buffer.redo()
        self.assertEqual(buffer.text, "Pa")

    def test_a_refused_edit_does_not_end_redo(self):
        buffer = Buffer(example_of_buffers())
        buffer.put(0, "a" * 40)
        buffer.undo()
        self.expect_range(0, 1, buffer.edit, 0, 1, "a")
        self.expect(errors.InvalidText, ["?"], buffer.put, 0, "?")
        buffer.redo()
        self.assertEqual(buffer.text, "a" * 40)
        buffer.put(0, "m")
        buffer.undo()
        with self.assertRaises(errors.TooMany):
            buffer.put(0, "a" * 21)
        buffer.redo()
        self.assertEqual(buffer.text, "m" + "a" * 40)

    def test_thousands_of_edits(self):
        table = example_of_buffers()
        buffer = Buffer(table, composed=False)
        chance = random.Random(1)
        texts = [""]
        while len(texts) < 3000:
            start = chance.randint(0, len(buffer.text))
            stop = min(len(buffer.text), start + chance.randint(0, 3))
            text = "".join(chance.choices("aPm", k=chance.randint(0, 3)))
            if len(buffer.text) - stop + start + len(text) <= 60:
                buffer.edit(start, stop, text)
                if buffer.text != texts[-1]:
                    texts.append(buffer.text)
        for text in texts[-2::-1]:
            buffer.undo()
            self.assertEqual(buffer.text, text)
        self.expect(errors.NothingToUndo, [], buffer.undo)
        for text in texts[1:]:
            buffer.redo()
            self.assertEqual(buffer.text, text)
            self.assertEqual(buffer.form, decomposed(table, text))
        self.expect(errors.NothingToRedo, [], buffer.redo)


class FormTest(BufferCase):
    def test_the_form_of_a_new_buffer_with_its_text(self):
        chance = random.Random(2)
        for table in sound_tables():
            for is_composed in (True, False):
                buffer = Buffer(table, composed=is_composed)
                for _ in range(40):
                    before = buffer.form
                    start = chance.randint(0, len(buffer.text))
                    stop = chance.randint(start, len(buffer.text))
                    text = "".join(chance.choices(table.characters, k=chance.randint(0, 3)))
                    change = buffer.last_change
                    if text != buffer.text[start:stop]:
                        change = 0
                    buffer.edit(start, stop, text)
                    new = Buffer(table, buffer.text, composed=is_composed)
                    self.assertEqual((buffer.form, len(buffer)), (new.form, len(new)))
                    form = composed(table, buffer.text) if is_composed else decomposed(table, buffer.text)
                    self.assertEqual(buffer.form, form)
                    self.assertIs(buffer == new, True)
                    self.assertEqual(buffer.last_change, change_of(before, form) if change == 0 else change)

    def test_index(self):
        buffer = Buffer(example_of_buffers(), "aaam")
        self.assertEqual([buffer[0], buffer[1], buffer[2], len(buffer)], ["P", "a", "m", 3])
        for value in no_integers() + [-1, 3, 4, 10 ** 29, -3, True, False, buffer, "P"]:
            with self.assertRaises(errors.UnknownIndex) as caught:
                buffer[value]
            self.assertIs(caught.exception.value, value)
        with self.assertRaises(errors.UnknownIndex):
            Buffer(example_of_buffers())[0]

    def test_there_is_no_way_to_go_through(self):
        with self.assertRaises(TypeError):
            iter(Buffer(example_of_buffers(), "aa"))

    def test_changes(self):
        table = Table.from_text("a 0\nb 0\nu 1\nA 0 = au")
        buffer = Buffer(table, "ab")
        for start, stop, text, change in (
            (0, 1, "A", (0, "a", "A")),
            (2, 2, "ab", (2, "", "ab")),
            (0, 2, "", (0, "Ab", "")),
            (0, 2, "bb", (0, "a", "b")),
            (1, 1, "bbb", (2, "", "bbb")),
            (0, 5, "bab", (1, "bbb", "a")),
            (1, 2, "au", (1, "a", "A")),
            (1, 3, "A", (3, "", "")),
            (1, 2, "", (1, "A", "")),
        ):
            before = buffer.form
            buffer.edit(start, stop, text)
            self.assertEqual(buffer.last_change, change)
            self.assertEqual(change, change_of(before, buffer.form))
            self.assertIs(type(buffer.last_change), tuple)

    def test_the_longest_beginning_counts_first(self):
        buffer = Buffer(Table({"a": 0, "b": 0}), "aa")
        buffer.put(0, "a")
        self.assertEqual(buffer.last_change, (2, "", "a"))
        buffer.edit(0, 3, "aba")
        self.assertEqual(buffer.last_change, (1, "a", "b"))
        buffer.edit(0, 3, "ababa")
        self.assertEqual(buffer.last_change, (3, "", "ba"))
        buffer.undo()
        self.assertEqual(buffer.last_change, (3, "ba", ""))


class ContainsTest(BufferCase):
    def test_parts_of_equivalent_texts(self):
        for table in sound_tables():
            short = texts_up_to(table, 2)
            for texts in equivalent_texts(table, 2) + equivalent_texts(table, 3)[-8:]:
                buffer = Buffer(table, [text for text in texts if len(text) < 9][0])
                parts = {text[i:j] for text in texts for i in range(len(text) + 1) for j in range(i, len(text) + 1)}
                for value in short + sorted(parts)[:30]:
                    self.assertIs(value in buffer, value in parts, (str(table), buffer.text, value))

    def test_any_value(self):
        buffer = Buffer(example_of_buffers(), "aaam")
        for value in any_values() + ["b", "a?", ["a"], buffer, "aaaa", "mm", "ma", "a" * 61]:
            self.assertIs(value in buffer, False)
        for value in ("", "a", "P", "aP", "Pa", "am", "Pam", "aaam", "aPm"):
            self.assertIs(value in buffer, True)
        self.assertIs("a" * 60 in Buffer(example_of_buffers(), "P" * 60), True)
        self.assertIs("a" * 61 in Buffer(example_of_buffers(), "P" * 60), False)

    def test_too_many_rests_first(self):
        table = Table({"a": 0, **{str(rank): rank for rank in range(1, 10)}})
        text = "4444" + "3333" + "2222" + "1567"
        self.assertEqual(rest_count(table, text), 2000)
        self.assertIs("4" in Buffer(table, text), True)
        buffer = Buffer(table, text + "a")
        with self.assertRaises(errors.TooMany) as refused:
            rests(table, text + "a")
        for value in any_values() + ["", "4", "a", "?", "a" * 61, buffer]:
            with self.assertRaises(errors.TooMany) as caught:
                value in buffer
            self.assertEqual(caught.exception.total, refused.exception.total)
        self.assertEqual(caught.exception.total, 2001)

    def test_equal(self):
        table = example_of_buffers()
        buffer = Buffer(table, "aam")
        for other in (buffer, Buffer(table, "Pm"), Buffer(example_of_buffers(), "aam", composed=False)):
            self.assertIs(buffer == other, True)
            self.assertIs(buffer != other, False)
        excluded = Table({"a": 0, "P": 0, "m": 1}, decompositions={"P": "aa"}, excluded="P")
        for other in [Buffer(table, "am"), Buffer(excluded, "aam"), Buffer(table)] + any_values() + ["aam", table]:
            self.assertIs(buffer == other, False)
            self.assertIs(buffer != other, True)
        moved = Buffer(table, "m")
        moved.put(0, "aa")
        self.assertIs(moved == buffer, True)

    def test_equal_for_all_equivalent_texts(self):
        for table in sound_tables():
            sets = equivalent_texts(table, 2)
            for texts in sets:
                for other in sets:
                    same = Buffer(table, texts[0]) == Buffer(table, other[-1])
                    self.assertIs(same, texts is other)
