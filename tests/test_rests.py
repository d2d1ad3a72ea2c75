import unittest

from canontext import errors, rests as module
from canontext.rests import MAX_RESTS, beginnings, rest_after, rest_count, rests
from canontext.soundness import decomposed
from canontext.tables import Table
from tests.values import equivalent_texts, example, sound_tables, texts_up_to


def example_of_rests():
    """The table of the example behind point 66."""
    return Table({"b": 0, "m": 1, "n": 2, "B": 0}, decompositions={"B": "bm"})


def many_classes():
    """A table of a base and a mark of each class; the name of a mark is its class."""
    return Table({"a": 0, **{str(rank): rank for rank in range(1, 10)}})


class RestAfterTest(unittest.TestCase):
    def test_example_of_point_66(self):
        table = example_of_rests()
        self.assertEqual([rest_after(table, "bmn", "bn"), rest_after(table, "bmn", "n"), beginnings(table, "bmn"),
                          rests(table, "bmn")], ["m", None, "Bb", ["bmn", "mn", "m", "n", ""]])

    def test_rest_after(self):
        table = example_of_rests()
        for text, beginning, rest in (
            ("", "", ""),
            ("Bn", "", "bmn"),
            ("Bn", "nB", None),
            ("Bn", "bnm", ""),
            ("Bn", "Bn", ""),
            ("Bn", "Bnn", None),
            ("bnm", "B", "n"),
            ("mnmnB", "nn", "mmbm"),
            ("mnmnB", "nnmm", "bm"),
            ("mnmnB", "nmmnb", "m"),
            ("mnmnB", "nmmb", None),
            ("mnmnB", "nnn", None),
            ("mB", "B", None),
            ("bb", "bm", None),
            ("bm", "bb", None),
            ("", "m", None),
            ("", "b", None),
        ):
            self.assertEqual(rest_after(table, text, beginning), rest, (text, beginning))

    def test_marks_of_one_class_come_in_their_order(self):
        table = Table({"a": 0, "u": 1, "x": 1, "v": 2, "w": 3})
        for beginning, rest in (("u", "xvw"), ("x", None), ("ux", "vw"), ("xu", None), ("v", "uxw"), ("w", "uxv"),
                                ("wu", "xv"), ("wx", None), ("vwu", "x"), ("wvux", "")):
            self.assertEqual(rest_after(table, "uxvw", beginning), rest)
        self.assertIsNone(rest_after(table, "auxv", "v"))
        self.assertIsNone(rest_after(table, "uav", "v"))
        self.assertIsNone(rest_after(table, "uav", "a"))
        self.assertEqual(rest_after(table, "uav", "u"), "av")

    def test_composites_that_end_in_the_middle_of_a_block(self):
        table = Table.from_text("a 0\nb 0\nu 1\nv 2\nD 0 = ab\nE 0 = Dv\nW 1 = uv")
        for text, beginning, rest in (("E", "D", "v"), ("abuv", "E", "u"), ("abuv", "D", "uv"), ("Duvv", "EW", ""),
                                      ("uvva", "W", "va"), ("uvva", "vW", "a"), ("uva", "vW", None)):
            self.assertEqual(rest_after(table, text, beginning), rest)

    def test_sixty_characters(self):
        table = many_classes()
        text = "987654321" * 6 + "a987"
        self.assertEqual(rest_after(table, text, text), "")
        self.assertEqual(rest_after(table, text, "999999"), "".join([digit * 6 for digit in "12345678"]) + "a789")
        self.assertIsNone(rest_after(table, text, "a" * 60))
        self.assertIsNone(rest_after(table, "", "9" * 60))

    def test_the_rest_may_be_longer_than_sixty_characters(self):
        table = example_of_rests()
        self.assertEqual(rest_after(table, "B" * 60, "b"), "m" + "bm" * 59)
        self.assertEqual(rest_after(table, "B" * 60, "B" * 60), "")


class BeginningsTest(unittest.TestCase):
    def test_beginnings(self):
        table = Table.from_text("a 0\nu 1\nx 1\nv 2\nA 0 = ax\nB 0 = Av\nC 0 = Bu\nU 1 = u\nW 1 = uu")
        for text, found in (("", ""), ("a", "a"), ("u", "Uu"), ("uu", "UWu"), ("xuu", "x"), ("vuu", "UWuv"),
                            ("Ba", "ABa"), ("aux", "a"), ("axuv", "ABCa"), ("ua", "Uu"), ("C", "ABCa")):
            self.assertEqual(beginnings(table, text), found, text)

    def test_of_sixty_characters(self):
        self.assertEqual(beginnings(many_classes(), "987654321" * 6 + "a98765"), "123456789")
        self.assertEqual(beginnings(example_of_rests(), "B" * 60), "Bb")


class RestsTest(unittest.TestCase):
    def test_rests(self):
        table = Table({"a": 0, "b": 0, "u": 1, "x": 1, "v": 2})
        for text, found in (
            ("", [""]),
            ("a", ["a", ""]),
            ("ab", ["ab", "b", ""]),
            ("ux", ["ux", "x", ""]),
            ("vu", ["uv", "u", "v", ""]),
            ("xvu", ["xuv", "uv", "xu", "u", "v", ""]),
            ("vua", ["uva", "ua", "va", "a", ""]),
            ("bvua", ["buva", "uva", "ua", "va", "a", ""]),
        ):
            self.assertEqual(rests(table, text), found)
            self.assertEqual(rest_count(table, text), len(found))

    def test_longer_ones_first_and_ascending_among_equals(self):
        table = Table({"a": 0, "u": 1, "Z": 2, "v": 3})
        self.assertEqual(rests(table, "vuZ"), ["uZv", "Zv", "uZ", "uv", "Z", "u", "v", ""])

    def test_the_number_of_rests(self):
        table = many_classes()
        for text, count in (("", 1), ("1", 2), ("11", 3), ("12", 4), ("1122", 9), ("a", 2), ("aa", 3), ("1a", 3),
                            ("12a12a11", 11), ("123456789", 512), ("1" * 60, 61), ("a" * 60, 61),
                            ("123456789" * 6 + "123456", 8 ** 6 * 7 ** 3), ("12" * 30, 31 * 31)):
            self.assertEqual(rest_count(table, text), count)

    def test_two_thousand_rests_and_more(self):
        self.assertEqual(MAX_RESTS, 2000)
        self.assertIs(type(module.MAX_RESTS), int)
        table = many_classes()
        text = "4444" + "3333" + "2222" + "1567"
        self.assertEqual(rest_count(table, text), 2000)
        found = rests(table, text)
        self.assertEqual(len(found), 2000)
        self.assertEqual(found, sorted(set(found), key=lambda rest: (-len(rest), rest)))
        self.assertEqual((found[0], found[-1]), ("122223333444" + "4567", ""))
        for text, total in ((text + "a", 2001), ("a" + text, 2001), (text + "8", 4000), (text * 3, 13 ** 3 * 4 ** 4)):
            with self.assertRaises(errors.TooMany) as caught:
                rests(table, text)
            self.assertEqual(caught.exception.total, total)
            self.assertEqual(rest_count(table, text), total)

    def test_lists_are_new(self):
        table = example()
        rests(table, "auv").append("a")
        self.assertEqual(rests(table, "auv"), ["auv", "uv", "u", "v", ""])

    def test_exactly_the_forms_behind_beginnings_of_variants(self):
        for table in sound_tables():
            for texts in equivalent_texts(table, 3):
                found = {}
                for text in texts:
                    for at in range(len(text) + 1):
                        form = decomposed(table, text[at:])
                        # There is at most one rest for a beginning.
                        self.assertEqual(found.setdefault(text[:at], form), form)
                ordered = sorted(set(found.values()), key=lambda rest: (-len(rest), rest))
                self.assertEqual(rests(table, texts[-1]), ordered)
                self.assertEqual(rest_count(table, texts[0]), len(ordered))
                for beginning in [*texts_up_to(table, 1), *found]:
                    self.assertEqual(rest_after(table, texts[0], beginning), found.get(beginning))
                first = sorted({text[0] for text in texts if text})
                self.assertEqual(beginnings(table, texts[-1]), "".join(first))
