import itertools
import os.path
import random
import unittest

from canontext import errors
from canontext.composing import composed
from canontext.soundness import decomposed
from canontext.streams import Stream, streamed
from canontext.tables import Table
from tests.cases import ErrorCase
from tests.values import any_values, example, sound_tables, texts_up_to, unsound

NO_CHOICES = [value for value in any_values() if value is not True and value is not False] + [1, 0, "a"]


def example_of_streams():
    """The table of the example behind point 74."""
    return Table({"a": 0, "b": 0, "m": 1, "n": 2, "B": 0}, decompositions={"B": "bm"})


def pairing():
    """A table with a base that pairs with itself, and with marks."""
    return Table.from_text("a 0\nm 1\nn 2\nP 0 = aa\nQ 0 = Pm\nR 0 = Pa")


def form_of(table, text, is_composed):
    return composed(table, text) if is_composed else decomposed(table, text)


def final_part(table, text, is_composed):
    """What the forms of a text and of it with each single character behind it have in common."""
    texts = [text] + [text + character for character in table.characters]
    return os.path.commonprefix([form_of(table, one, is_composed) for one in texts])


def first_changer(table, text, is_composed):
    """The first character that changes the first one behind the final part, by trying each."""
    final = final_part(table, text, is_composed)
    form = form_of(table, text, is_composed)
    if form == final:
        return None
    beginning = form[:len(final) + 1]
    return [c for c in table.characters if not form_of(table, text + c, is_composed).startswith(beginning)][0]


class StreamTest(unittest.TestCase):
    def check(self, stream, table, text, is_composed):
        """Compare a stream that has read a text with a search over what may follow."""
        final = final_part(table, text, is_composed)
        form = form_of(table, text, is_composed)
        self.assertEqual("".join(stream.pieces), final, (str(table), text))
        self.assertEqual(stream.held, form[len(final):])
        self.assertEqual(stream.given, text)
        self.assertEqual(stream.changer(), first_changer(table, text, is_composed), (str(table), text))
        self.assertIs(stream.closed, False)

    def test_example_of_point_74(self):
        stream = Stream(example_of_streams())
        self.assertEqual([stream("ab"), stream.held, stream.changer(), stream("n"), stream("m"), stream("a"),
                          stream.close()], ["a", "b", "m", "", "B", "na", ""])

    def test_decomposed_forms(self):
        stream = Stream(example_of_streams(), composed=False)
        self.assertEqual([stream("ab"), stream.held, stream.changer(), stream("n"), stream.held, stream.changer(),
                          stream("Bn"), stream.held, stream("m"), stream.held, stream.close()],
                         ["ab", "", None, "", "n", "m", "nbm", "n", "m", "n", "n"])

    def test_each_text_as_one_piece(self):
        for table in sound_tables():
            for is_composed in (True, False):
                for text in texts_up_to(table, 3):
                    stream = Stream(table, composed=is_composed)
                    self.assertEqual(stream(text), final_part(table, text, is_composed))
                    self.check(stream, table, text, is_composed)

    def test_each_text_character_by_character(self):
        for table in sound_tables():
            for is_composed in (True, False):
                for text in ["".join(row) for row in itertools.product(table.characters, repeat=3)][::2]:
                    stream = Stream(table, composed=is_composed)
                    for at, character in enumerate(text):
                        stream(character)
                        self.check(stream, table, text[:at + 1], is_composed)
                    stream.close()
                    self.assertEqual("".join(stream.pieces), form_of(table, text, is_composed))

    def test_random_texts_in_random_pieces(self):
        chance = random.Random(8)
        tables = sound_tables() + [pairing()]
        for _ in range(600):
            table = chance.choice(tables)
            is_composed = chance.random() < 0.7
            stream = Stream(table, composed=is_composed)
            given = []
            returned = []
            for _ in range(chance.randint(1, 7)):
                given.append("".join(chance.choices(table.characters, k=chance.choice([0, 1, 1, 2, 3, 8]))))
                returned.append(stream(given[-1]))
                self.assertEqual(stream.pieces, returned)
                self.check(stream, table, "".join(given), is_composed)
            returned.append(stream.close())
            self.assertEqual("".join(returned), form_of(table, "".join(given), is_composed))
            self.assertEqual(streamed(table, given, composed=is_composed), returned)

    def test_nothing_that_follows_changes_the_final_part(self):
        for table in sound_tables():
            more = texts_up_to(table, 3)
            for is_composed in (True, False):
                for text in texts_up_to(table, 1) + texts_up_to(table, 3)[-15:]:
                    stream = Stream(table, composed=is_composed)
                    forms = [form_of(table, text + other, is_composed) for other in more]
                    self.assertEqual(stream(text), os.path.commonprefix(forms))

    def test_empty_pieces(self):
        stream = Stream(example_of_streams())
        self.assertEqual([stream(""), stream.given, stream.held, stream.changer(), stream.pieces],
                         ["", "", "", None, [""]])
        self.assertEqual([stream("b"), stream(""), stream.held, stream.pieces], ["", "", "b", ["", "", ""]])
        self.assertEqual([stream("a"), stream(""), stream.close(), stream.pieces], ["ba", "", "", ["", "", "", "ba",
                                                                                                 "", ""]])

    def test_a_stream_that_read_nothing(self):
        stream = Stream(example_of_streams())
        self.assertEqual([stream.given, stream.held, stream.pieces, stream.closed, stream.changer()],
                         ["", "", [], False, None])
        self.assertEqual([stream.close(), stream.closed, stream.pieces], ["", True, [""]])

    def test_marks_alone(self):
        table = Table({"a": 0, "t": 1, "u": 2, "v": 3})
        stream = Stream(table)
        self.assertEqual([stream("u"), stream.held, stream.changer()], ["", "u", "t"])
        self.assertEqual([stream("t"), stream.held, stream.changer()], ["t", "u", "t"])
        self.assertEqual([stream("vt"), stream.held, stream("a"), stream.held], ["t", "uv", "uva", ""])
        stream = Stream(Table({"u": 2, "v": 3}))
        self.assertEqual([stream("uv"), stream.held, stream("u"), stream.changer()], ["u", "v", "u", "u"])
        self.assertEqual(Stream(Table({"v": 3}))("v" * 60), "v" * 60)

    def test_a_changer_that_is_a_composite(self):
        table = Table.from_text("a 0\nu 1\nv 2\nU 2 = u\nW 1 = vv")
        stream = Stream(table)
        self.assertEqual([stream("av"), stream.held, stream.changer()], ["a", "v", "U"])
        table = Table.from_text("a 0\nb 0\nB 0 = bb\nD 0 = ab\n1 0 = bb excluded")
        stream = Stream(table)
        self.assertEqual([stream("a"), stream.held, stream.changer()], ["", "a", "1"])

    def test_atoms_that_others_of_a_composite_block(self):
        for lines, changer in (
            ("a 0\nu 1\nx 1\nA 0 = au\nW 1 = xu", "u"),
            ("a 0\nb 0\nu 1\nD 0 = ab\nW 1 = ub", "b"),
            ("a 0\nb 0\nD 0 = ab\nB 0 = aa", "B"),
            ("a 0\nu 1\nx 1\nA 0 = au\nW 1 = ux", "W"),
            ("a 0\nu 2\nx 1\nA 0 = au\nW 1 = xu", "W"),
        ):
            stream = Stream(Table.from_text(lines))
            self.assertEqual([stream("a"), stream.held, stream.changer()], ["", "a", changer], lines)
            self.assertEqual(stream.changer(), first_changer(Table.from_text(lines), "a", True))

    def test_marks_of_the_highest_class(self):
        table = Table.from_text("a 0\nb 0\nu 1\nz 9\nA 0 = az\nB 0 = Ab")
        stream = Stream(table)
        self.assertEqual([stream("a"), stream.changer(), stream("z"), stream.held, stream.changer(), stream("b")],
                         ["", "z", "", "A", "b", "B"])
        self.assertEqual([stream.held, stream.changer(), stream("azz"), stream.held, stream("u"), stream.close()],
                         ["", None, "A", "z", "u", "z"])
        for text in texts_up_to(table, 3):
            stream = Stream(table)
            stream(text)
            self.check(stream, table, text, True)

    def test_a_base_that_pairs_with_itself_in_long_runs(self):
        table = Table({"a": 0, "P": 0, "m": 1}, decompositions={"P": "aa"})
        stream = Stream(table)
        total = 0
        for length in [1, 60, 59, 0, 58] * 40:
            stream("a" * length)
            total += length
            self.assertEqual("".join(stream.pieces), "P" * (total // 2))
            self.assertEqual(stream.held, "a" * (total % 2))
            self.assertEqual(stream.changer(), "P" if total % 2 else None)
        self.assertEqual(stream.given, "a" * total)
        stream("m" * 60)
        self.assertEqual("".join(stream.pieces) + stream.held, "P" * (total // 2) + "m" * 60)

    def test_long_runs_that_nothing_ends(self):
        table = pairing()
        stream = Stream(table)
        for _ in range(50):
            stream("a" * 37)
        self.assertEqual("".join(stream.pieces), "R" * (50 * 37 // 3))
        self.assertEqual((stream.held, stream.changer()), ("P", "P"))
        self.assertEqual([stream("m"), stream.held, stream("m"), stream("aaam"), stream.held, stream("aan")],
                         ["Q", "", "m", "Rm", "", ""])
        self.assertEqual([stream.held, stream("a"), stream.held], ["Pn", "Pn", "a"])

    def test_texts_of_any_length(self):
        table = example_of_streams()
        given = ["nbmB"[at % 4] * (at % 61) for at in range(2000)]
        whole = "".join(given)
        rows = whole.replace("B", "bm").split("b")
        sorted_rows = ["m" * row.count("m") + "n" * row.count("n") for row in rows]
        form = "b".join(sorted_rows)
        self.assertGreater(max(map(len, rows)), 60)
        for is_composed, expected in ((True, form.replace("bm", "B")), (False, form)):
            returned = streamed(table, given, composed=is_composed)
            self.assertEqual(len(returned), 2001)
            self.assertEqual("".join(returned), expected)
            other = streamed(table, [whole[at:at + 60] for at in range(0, len(whole), 60)], composed=is_composed)
            self.assertEqual("".join(other), expected)

    def test_marks_that_are_held_for_long(self):
        table = Table({"a": 0, "u": 1, "v": 2})
        stream = Stream(table)
        for _ in range(200):
            self.assertEqual(stream("v" * 60), "")
        self.assertEqual((stream.held, stream.changer()), ("v" * 12000, "u"))
        self.assertEqual([stream("u"), stream("a" + "v"), stream.held], ["u", "v" * 12000 + "a", "v"])

    def test_lists_are_new(self):
        stream = Stream(example_of_streams())
        stream("ab")
        stream.pieces.append("b")
        self.assertEqual(stream.pieces, ["a"])
        self.assertIsNot(stream.pieces, stream.pieces)


class ClosedStreamTest(unittest.TestCase):
    def test_close_returns_what_is_held(self):
        stream = Stream(example_of_streams())
        stream("abn")
        self.assertEqual([stream.close(), stream.closed, stream.held, stream.given, stream.pieces],
                         ["bn", True, "", "abn", ["a", "bn"]])

    def test_calls_of_a_closed_stream(self):
        stream = Stream(example_of_streams())
        stream("abn")
        stream.close()
        for call in (stream.changer, stream.close, lambda: stream("a"), lambda: stream(""), lambda: stream("?"),
                     lambda: stream(None), lambda: stream(piece=[])):
            with self.assertRaises(errors.Closed) as caught:
                call()
            self.assertIs(type(caught.exception), errors.Closed)
            self.assertEqual([stream.closed, stream.held, stream.given, stream.pieces],
                             [True, "", "abn", ["a", "bn"]])


class WrongArgumentsTest(ErrorCase):
    def test_the_constructor(self):
        table = unsound()
        for value in any_values() + ["a", [example()]]:
            self.expect(errors.InvalidTable, [value], Stream, value)
            self.expect(errors.InvalidTable, [value], Stream, value, composed=1)
            self.expect(errors.InvalidTable, [value], streamed, value, None, composed=1)
        for choice in (True, 1):
            for call in (lambda: Stream(table, composed=choice), lambda: streamed(table, None, composed=choice)):
                with self.assertRaises(errors.Unsound) as caught:
                    call()
                self.assertEqual((caught.exception.first, caught.exception.second), ("W", "v"))
        for value in NO_CHOICES:
            self.expect(errors.InvalidChoice, [value], Stream, example(), composed=value)
            self.expect(errors.InvalidChoice, [value], streamed, example(), None, composed=value)
            self.expect(errors.InvalidChoice, [value], streamed, example(), ["?"], composed=value)
        with self.assertRaises(TypeError):
            Stream(example(), True)
        with self.assertRaises(TypeError):
            streamed(example(), [], True)

    def test_a_refused_piece_is_not_read(self):
        table = example_of_streams()
        stream = Stream(table)
        stream("ab")
        for value in any_values() + ["A", "a?", "a" * 61, ["a"], ("a",), table, stream]:
            self.expect(errors.InvalidText, [value], stream, value)
            self.expect(errors.InvalidText, [value], stream, piece=value)
            self.assertEqual([stream.given, stream.held, stream.pieces, stream.changer(), stream.closed],
                             ["ab", "b", ["a"], "m", False])
        self.assertEqual([stream("n" * 60), stream("m"), stream.held], ["", "B", "n" * 60])

    def test_pieces_that_are_no_list(self):
        table = example_of_streams()
        for value in [one for one in any_values() if not isinstance(one, (list, tuple))] + ["ab", "", table, {"a": 1}]:
            self.expect(errors.InvalidText, [value], streamed, table, value)

    def test_the_first_item_that_is_no_text(self):
        table = example_of_streams()
        for value in any_values() + ["A", "a" * 61, table]:
            pieces = ["a", "b" * 60, value, None, "?"]
            kept = list(pieces)
            self.expect(errors.InvalidText, [value], streamed, table, pieces)
            self.expect(errors.InvalidText, [value], streamed, table, tuple(pieces), composed=False)
            self.assertEqual(len(pieces), len(kept))
            self.assertTrue(all(one is other for one, other in zip(pieces, kept)))


class StreamedTest(unittest.TestCase):
    def test_streamed(self):
        table = example_of_streams()
        self.assertEqual(streamed(table, ["ab", "n", "m", "a"]), ["a", "", "B", "na", ""])
        self.assertEqual(streamed(table, ("ab", "n"), composed=True), ["a", "", "bn"])
        self.assertEqual(streamed(table, ["aB", "n"], composed=False), ["abm", "", "n"])
        self.assertEqual(streamed(table, []), [""])
        self.assertEqual(streamed(table, ()), [""])
        self.assertEqual(streamed(table, [""]), ["", ""])

    def test_arguments_by_name(self):
        table = example_of_streams()
        self.assertEqual(streamed(composed=False, pieces=["Bn"], table=table), ["bm", "n"])
        self.assertEqual(Stream(composed=False, table=table)(piece="B"), "bm")

    def test_however_a_text_is_cut(self):
        for table in sound_tables():
            for text in ["".join(row) for row in itertools.product(table.characters, repeat=4)][-12:]:
                for is_composed in (True, False):
                    for cuts in itertools.product((0, 1), repeat=len(text) - 1):
                        pieces = [text[0]]
                        for cut, character in zip(cuts, text[1:]):
                            if cut:
                                pieces.append(character)
                            else:
                                pieces[-1] += character
                        joined = "".join(streamed(table, pieces, composed=is_composed))
                        self.assertEqual(joined, form_of(table, text, is_composed))

    def test_arguments_are_not_modified_and_lists_are_new(self):
        table = example_of_streams()
        pieces = ["ab", "n"]
        returned = streamed(table, pieces)
        returned.append("a")
        self.assertEqual(pieces, ["ab", "n"])
        self.assertEqual(streamed(table, pieces), ["a", "", "bn"])

    def test_equal_tables_give_equal_results(self):
        for table in sound_tables():
            other = Table.from_text("\n".join(reversed(str(table).split("\n"))))
            pieces = [table.characters, table.characters[::-1], table.characters[:1]]
            self.assertEqual(streamed(table, pieces), streamed(other, pieces))
