from canontext import composing, errors, forms, rests, search
from canontext.buffers import Buffer
from canontext.revisions import spelled
from canontext.soundness import decomposed, judge
from canontext.tables import Table
from canontext.variants import Variants
from tests.cases import ErrorCase
from tests.values import any_values, example, small_tables, sound_tables, unsound

# Each function or class with its parameters, those that are texts, and valid values for others.
CALLS = [
    (forms.blocks, ["text"], {}),
    (forms.are_equivalent, ["one", "other"], {}),
    (forms.first_difference, ["one", "other"], {}),
    (forms.path_between, ["one", "other"], {}),
    (forms.is_path, ["one", "other"], {"value": ["a"]}),
    (composing.composed, ["text"], {}),
    (composing.is_composed, ["text"], {}),
    (composing.formed, [], {}),
    (rests.rest_after, ["text", "beginning"], {}),
    (rests.beginnings, ["text"], {}),
    (rests.rest_count, ["text"], {}),
    (rests.rests, ["text"], {}),
    (Variants, ["text"], {}),
    (Buffer, ["text"], {}),
    (search.occurrences, ["text", "part"], {}),
    (search.occurrence_count, ["text", "part"], {}),
    (search.occurs, ["text", "part"], {}),
    (search.absence, ["text", "part"], {}),
    (search.is_absence, ["text", "part"], {"value": [(0, "short")]}),
    (spelled, ["text"], {"characters": ""}),
]


class SoundArgumentsTest(ErrorCase):
    def test_no_table(self):
        for function, texts, more in CALLS:
            for value in any_values() + ["", "a", [example()]]:
                self.expect(errors.InvalidTable, [value], function, value, *["a"] * len(texts), *more.values())
                self.expect(errors.InvalidTable, [value], function, value, *[None] * len(texts), *more.values())

    def test_tables_that_are_not_sound(self):
        tables = [table for table in small_tables() if judge(table) is not None] + [unsound()]
        self.assertGreater(len(tables), 10)
        for function, texts, more in CALLS:
            for table in tables:
                for text in ("u", "", None, "?", "u" * 61, [table]):
                    with self.assertRaises(errors.Unsound) as caught:
                        function(table, *[text] * len(texts), *more.values())
                    self.assertEqual((caught.exception.first, caught.exception.second), judge(table))

    def test_no_texts(self):
        table = example()
        form = decomposed(table, "B" * 21)
        self.assertEqual(len(form), 63)
        for function, texts, more in CALLS:
            for value in any_values() + ["a" * 61, form, "ab", "a" * 59 + " ", "?", ["a"], table]:
                for at in range(len(texts)):
                    values = ["a"] * at + [value] + ["a"] * (len(texts) - at - 1)
                    self.expect(errors.InvalidText, [value], function, table, *values, *more.values())
                    # The first text that is none counts.
                    values = ["a"] * at + [value] + [[None]] * (len(texts) - at - 1)
                    self.expect(errors.InvalidText, [value], function, table, *values, *more.values())

    def test_a_value_that_grows_afterwards_is_the_same_value(self):
        for function, texts, more in CALLS:
            for at in range(len(texts)):
                value = ["a"]
                values = ["a"] * at + [value] + ["a"] * (len(texts) - at - 1)
                with self.assertRaises(errors.InvalidText) as caught:
                    function(example(), *values, *more.values())
                value.append("a")
                self.assertIs(caught.exception.value, value)

    def test_texts_of_no_and_of_sixty_characters(self):
        for table in sound_tables():
            for text in ("", table.characters[0] * 60, table.characters[-1] * 60):
                for function, texts, more in CALLS:
                    try:
                        function(table, *[text] * len(texts), *more.values())
                    except errors.TooMany as error:
                        self.assertGreater(error.total, 60)

    def test_arguments_by_name(self):
        table = example()
        for function, texts, more in CALLS:
            given = {**more, **{name: "Auv" for name in reversed(texts)}, "table": table}
            self.assertEqual(function(**given), function(table, *["Auv"] * len(texts), *more.values()))
            self.expect(errors.InvalidTable, [None], function, **{**given, "table": None})
            for name in texts:
                self.expect(errors.InvalidText, [None], function, **{**given, name: None})

    def test_equal_tables_give_equal_results(self):
        for table in sound_tables():
            other = Table.from_text("\n".join(reversed(str(table).split("\n"))))
            text = table.characters[:3] + table.characters[-2:]
            for function, texts, more in CALLS:
                values = [text[::-1], text][-len(texts):] if texts else []
                first = function(table, *values, *more.values())
                self.assertEqual(function(table, *values, *more.values()), first)
                self.assertEqual(function(other, *values, *more.values()), first)

    def test_returned_lists_are_new(self):
        table = example()
        for function, texts, more in CALLS:
            values = ["Auv"] * len(texts) + list(more.values())
            returned = function(table, *values)
            if isinstance(returned, list):
                kept = list(returned)
                returned.append("a")
                self.assertEqual(function(table, *values), kept)
                self.assertIsNot(function(table, *values), function(table, *values))
