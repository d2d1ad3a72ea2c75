import copy
import itertools
import math
import random
import unittest

from canontext import errors
from canontext.forms import blocks
from canontext.search import absence, is_absence, occurrence_count, occurrences, occurs, replaced
from canontext.soundness import decomposed
from canontext.tables import Table
from tests.cases import ErrorCase
from tests.values import any_values, equivalent_texts, sound_tables, texts_up_to, unsound


def example_of_search():
    """The table of the example behind point 94."""
    return Table({"a": 0, "u": 1, "v": 2, "A": 0}, decompositions={"A": "au"})


def all_marks():
    """A base and a mark of each class."""
    return Table({"a": 0, **{str(rank): rank for rank in range(1, 10)}})


def found_by_steps(table, texts, part):
    """The occurrences of a part, from all texts that steps lead to: what stands in front of it and behind it."""
    form = decomposed(table, part)
    pairs = set()
    for text in texts:
        for start in range(len(text) + 1):
            for stop in range(start, len(text) + 1):
                if decomposed(table, text[start:stop]) == form:
                    pairs.add((decomposed(table, text[:start]), decomposed(table, text[stop:])))
    return sorted(pairs, key=lambda pair: (len(pair[0]), pair[0]))


def cases():
    """Small tables, each with all texts that are equivalent to one, and parts."""
    for table in sound_tables():
        parts = texts_up_to(table, 2)
        for texts in equivalent_texts(table, 2) + equivalent_texts(table, 3)[-12:]:
            if len(texts) < 200:
                yield table, texts, parts


def runs_of(table, text):
    """The bases and the runs of a text, as point 92 has them; the bases begin at index 1."""
    found = blocks(table, text)
    return [None] + [block[0] for block in found[1:]], [found[0]] + [block[1:] for block in found[1:]]


def fits(table, run, wanted, number, last, rank):
    """Whether the marks of a class of a run of the part fit, as point 92 has it."""
    marks = [mark for mark in run if table.class_of(mark) == rank]
    wanted = [mark for mark in wanted if table.class_of(mark) == rank]
    if last == 0:
        return any(marks[at:at + len(wanted)] == wanted for at in range(len(marks) + 1))
    if number == 0:
        return marks[len(marks) - len(wanted):] == wanted if len(wanted) <= len(marks) else False
    if number == last:
        return marks[:len(wanted)] == wanted
    return marks == wanted


def all_reasons(table, text, part):
    """For each run number, the tuples of point 93 that apply, those that count first in front."""
    bases, runs = runs_of(table, text)
    part_bases, wanted = runs_of(table, part)
    last = len(wanted) - 1
    found = []
    for i in range(len(runs)):
        rows = [(i, "short")] if i + last >= len(runs) else []
        numbers = [j for j in range(last + 1) if i + j < len(runs)]
        rows.extend([(i, "base", j) for j in numbers if j > 0 and bases[i + j] != part_bases[j]])
        rows.extend([(i, "run", j, k) for j in numbers for k in range(1, 10)
                     if not fits(table, runs[i + j], wanted[j], j, last, k)])
        found.append(rows)
    return found


class OccurrencesTest(unittest.TestCase):
    def test_example_of_point_94(self):
        table = example_of_search()
        self.assertEqual(occurrences(table, "Auv", "u"), [("a", "uv"), ("au", "v"), ("av", "u"), ("auv", "")])
        self.assertEqual([absence(table, "Av", "va"), replaced(table, "Auv", "u", "v")],
                         [[(0, "run", 0, 2), (1, "short")], "avvv"])

    def test_against_all_equivalent_texts(self):
        for table, texts, parts in cases():
            for part in parts:
                found = found_by_steps(table, texts, part)
                for text in [text for text in (texts[0], texts[-1]) if len(text) <= 60]:
                    self.assertEqual(occurrences(table, text, part), found, (str(table), text, part))
                    self.assertEqual(occurrence_count(table, text, part), len(found))
                    self.assertIs(occurs(table, text, part), bool(found))

    def test_the_text_is_equivalent_to_what_was_found(self):
        for table, texts, parts in cases():
            for part in parts:
                for front, behind in occurrences(table, texts[0], part):
                    self.assertEqual(decomposed(table, front + part + behind), decomposed(table, texts[0]))

    def test_the_empty_part(self):
        table = example_of_search()
        self.assertEqual(occurrences(table, "", ""), [("", "")])
        self.assertEqual(occurrences(table, "a", ""), [("", "a"), ("a", "")])
        self.assertEqual(occurrences(table, "vu", ""), [("", "uv"), ("u", "v"), ("v", "u"), ("uv", "")])
        self.assertEqual(occurrences(table, "Aa", ""), [("", "aua"), ("a", "ua"), ("au", "a"), ("aua", "")])
        self.assertEqual([occurrences(table, "", "a"), occurrence_count(table, "", "a"), occurs(table, "", "a")],
                         [[], 0, False])

    def test_marks_alone(self):
        table = Table({"a": 0, "u": 1, "x": 1, "v": 2})
        self.assertEqual(occurrences(table, "uxuxv", "ux"),
                         [("", "uxv"), ("v", "ux"), ("ux", "v"), ("uxv", "")])
        self.assertEqual(occurrences(table, "uxuv", "xv"), [("u", "u")])
        self.assertEqual(occurrence_count(table, "uuuu", "uu"), 3)
        self.assertIs(occurs(table, "uxu", "uu"), False)

    def test_marks_at_both_ends_of_a_part(self):
        table = Table({"a": 0, "b": 0, "u": 1, "v": 2})
        self.assertEqual(occurrences(table, "uvaubuvv", "vaubv"), [("u", "uv")])
        self.assertEqual(occurrences(table, "uvaubuvv", "uab"), [])
        self.assertEqual(occurrences(table, "uvaubuvv", "uaubu"), [("v", "vv")])
        self.assertEqual(occurrences(table, "aauaa", "a"), [("", "auaa"), ("a", "uaa"), ("aau", "a"), ("aaua", "")])
        self.assertEqual(occurrences(table, "aauaa", "aa"), [("", "uaa"), ("aau", "")])

    def test_a_base_that_pairs_with_itself(self):
        table = Table({"a": 0, "P": 0, "m": 1}, decompositions={"P": "aa"})
        self.assertEqual(occurrences(table, "PP", "aP"), [("", "a"), ("a", "")])
        self.assertEqual(occurrence_count(table, "P" * 60, "P"), 119)
        self.assertEqual(len(occurrences(table, "P" * 60, "a" * 60)), 61)

    def test_more_than_can_be_listed(self):
        table = Table({"u": 1, "v": 2, "x": 3, "y": 4})
        text = "u" * 15 + "v" * 4 + "x" * 4 + "y" * 4
        self.assertEqual(occurrence_count(table, text, ""), 2000)
        self.assertEqual(len(occurrences(table, text, "")), 2000)
        self.assertEqual(len(set(occurrences(table, text, ""))), 2000)
        text = "u" * 28 + "v" * 22 + "x" * 2
        self.assertEqual(occurrence_count(table, text, ""), 29 * 23 * 3)
        with self.assertRaises(errors.TooMany) as caught:
            occurrences(table, text, "")
        self.assertEqual((caught.exception.total, type(caught.exception.total)), (2001, int))
        self.assertEqual(len(occurrences(table, text, "u")), 28 * 23 * 3)
        self.assertIs(occurs(table, text, ""), True)

    def test_far_too_many_to_be_listed(self):
        table = all_marks()
        text = "123456789" * 6
        self.assertEqual(occurrence_count(table, text, ""), 7 ** 9)
        self.assertEqual(occurrence_count(table, text, "1"), 6 * 7 ** 8)
        with self.assertRaises(errors.TooMany) as caught:
            occurrences(table, text, "99")
        self.assertEqual(caught.exception.total, 5 * 7 ** 8)
        lines = ["a 0"] + [f"{rank} {rank}" for rank in range(1, 10)]
        for rank, (name, longer) in enumerate(zip("ABCDEFGHI", "JKLMNOPQR"), 1):
            lines.extend([f"{name} {rank} = {rank}{rank}", f"{longer} {rank} = {name}{name}"])
        table = Table.from_text("\n".join(lines))
        self.assertEqual(occurrence_count(table, "JKLMNOPQR" * 6, ""), 25 ** 9)
        self.assertIs(occurs(table, "JKLMNOPQR" * 6, "ABCDEFGHI"), True)
        self.assertEqual(occurrence_count(table, "JKLMNOPQR" * 6 + "a", "a"), 1)
        with self.assertRaises(errors.TooMany) as caught:
            occurrences(table, "JKLMNOPQR" * 6, "")
        self.assertEqual(caught.exception.total, 25 ** 9)

    def test_the_order(self):
        table = all_marks()
        for text, part in (("a123a12a", ""), ("1234", ""), ("a112233a", "2"), ("321321", "1")):
            found = occurrences(table, text, part)
            keys = [(len(front), front) for front, _ in found]
            self.assertEqual(keys, sorted(set(keys)))
            self.assertEqual(len({behind for _, behind in found}), len(found))

    def test_kinds_of_values(self):
        table = example_of_search()
        found = occurrences(table, "Av", "")
        self.assertIs(type(found), list)
        for pair in found:
            self.assertEqual([type(pair), *map(type, pair)], [tuple, str, str])
        found.clear()
        self.assertEqual(len(occurrences(table, "Av", "")), 5)
        self.assertIs(type(occurrence_count(table, "Av", "a")), int)


class AbsenceTest(unittest.TestCase):
    def test_the_first_reasons(self):
        for table, texts, parts in cases():
            for part in parts:
                reasons = all_reasons(table, texts[0], part)
                expected = None if [] in reasons else [rows[0] for rows in reasons]
                self.assertEqual(absence(table, texts[0], part), expected, (str(table), texts[0], part))

    def test_accepted_exactly_if_there_is_no_occurrence(self):
        for table, texts, parts in cases():
            for part in parts:
                found = absence(table, texts[0], part)
                self.assertIs(found is None, occurs(table, texts[-1], part))
                if found is not None:
                    self.assertIs(is_absence(table, texts[-1], part, found), True)
                else:
                    self.assertIs(is_absence(table, texts[0], part, []), False)

    def test_each_reason_that_applies(self):
        for table, texts, parts in itertools.islice(cases(), 0, None, 3):
            for part in parts[len(texts) % 3::9]:
                reasons = all_reasons(table, texts[0], part)
                numbers = range(-1, len(reasons) + 2)
                tried = [(i, "short") for i in numbers]
                tried.extend([(i, "base", j) for i in numbers for j in numbers])
                tried.extend([(i, "run", j, k) for i in numbers for j in numbers for k in (0, 1, 2, 3, 9, 10)])
                for reason in tried:
                    value = [rows[-1] if rows else (0, "short") for rows in reasons]
                    if 0 <= reason[0] < len(value):
                        value[reason[0]] = reason
                    else:
                        value[0] = reason
                    applies = all(one in rows for one, rows in zip(value, reasons))
                    self.assertIs(is_absence(table, texts[0], part, value), applies)
                    self.assertIs(is_absence(table, texts[0], part, value[::-1]), applies)

    def test_all_three_sorts(self):
        table = Table({"a": 0, "b": 0, "u": 1, "x": 1, "v": 2})
        self.assertEqual(absence(table, "aub", "aa"), [(0, "base", 2), (1, "short"), (2, "short")])
        self.assertEqual(absence(table, "uxavb", "uav"), [(0, "run", 0, 1), (1, "base", 1), (2, "short")])
        self.assertEqual(absence(table, "uxavb", "xau"), [(0, "run", 1, 1), (1, "base", 1), (2, "short")])
        self.assertEqual(absence(table, "avaub", "vaua"), [(0, "run", 0, 2), (1, "base", 2), (2, "short"),
                                                           (3, "short")])
        self.assertEqual(absence(table, "vavab", "vauab"), [(0, "run", 1, 1), (1, "short"), (2, "short"), (3, "short")])
        self.assertEqual(absence(table, "uxu", "uu"), [(0, "run", 0, 1)])
        self.assertEqual(absence(table, "", "v"), [(0, "run", 0, 2)])
        self.assertEqual(absence(table, "", "b"), [(0, "short")])
        self.assertIsNone(absence(table, "", ""))

    def test_each_class(self):
        table = all_marks()
        for rank in range(1, 10):
            mark = str(rank)
            self.assertEqual(absence(table, "123456789", mark * 2), [(0, "run", 0, rank)])
            self.assertEqual(absence(table, "a" + mark, "a" + mark * 2), [(0, "run", 1, rank), (1, "short")])
            self.assertIs(occurs(table, "a123456789", "a" + mark), True)
            self.assertIs(is_absence(table, "123456789", mark * 2, [(0, "run", 0, rank)]), True)
            self.assertIs(is_absence(table, "123456789", mark * 2, [(0, "run", 0, 10 - rank)]), rank == 5)

    def test_values_that_are_none(self):
        table = Table({"a": 0, "b": 0, "u": 1, "x": 1, "v": 2})
        found = absence(table, "uxavb", "xau")
        self.assertEqual(found, [(0, "run", 1, 1), (1, "base", 1), (2, "short")])
        wrong = [tuple(found), found[:2], found + [(3, "short")], found + [(2, "short")], [],
                 [list(one) for one in found],
                 [found[0], found[0], found[2]], [(0, "run", True, 1), *found[1:]], [(0, "run", 1, True), *found[1:]],
                 [(False, "run", 1, 1), *found[1:]], [(0, "run", 1), *found[1:]], [(0, "run", 1, 1, 1), *found[1:]],
                 [(0, "run", "1", 1), *found[1:]], [(0, "Run", 1, 1), *found[1:]], [(0, "base", 1, 1), *found[1:]],
                 [(0, "run", 1, 2), *found[1:]], [(0, "run", 2, 1), *found[1:]], [(0, "run", -1, 1), *found[1:]],
                 [(0, "short", 1), *found[1:]], [(0,), *found[1:]], [(), *found[1:]], [(0, ["run"], 1, 1), *found[1:]],
                 [(0, "run", 1, 10), *found[1:]], [(0, "run", 1, 0), *found[1:]], [(0, None), *found[1:]],
                 [found[0], (1, "base", True), found[2]], [found[0], (1, "base", 0), found[2]],
                 [found[0], (1, "base", 2), found[2]], [found[0], (1, "Base", 1), found[2]],
                 [found[0], (1, "short", 1), found[2]], [found[0], (1, None, 1), found[2]],
                 [found[0], (1, "short"), found[2]],
                 [found[0], found[1], (2, "short", 0)], [found[0], found[1], (2,)], [found[0], found[1], "short"],
                 [found[0], found[1], (2, "base", 1)], [found[0], found[1], ([2], "short")], {0: found}, table,
                 [found[0], found[1], (2, table)], [table] * 3, [found[0], found[1], (10 ** 29, "short")]]
        for value in wrong + any_values():
            kept = copy.deepcopy(value) if isinstance(value, (dict, list)) and table not in list(value) else value
            self.assertIs(is_absence(table, "uxavb", "xau", value), False, value)
            if kept is not value and Table not in list(value):
                self.assertEqual(value, kept)
        for order in itertools.permutations(found):
            self.assertIs(is_absence(table, "uxavb", "xau", list(order)), True)
        self.assertIs(is_absence(table, "uxavb", "xau", [(0, "run", 1, 1), (1, "base", 1), (2, "short")]), True)

    def test_lists_are_new(self):
        table = example_of_search()
        absence(table, "Av", "va").clear()
        self.assertEqual(absence(table, "Av", "va"), [(0, "run", 0, 2), (1, "short")])


class ReplacedTest(unittest.TestCase):
    def replaced_by_search(self, table, text, part, other, limit):
        """Replace the first of all occurrences, again and again."""
        front = ""
        count = 0
        while limit is None or count < limit:
            found = occurrences(table, text, part)
            if not found:
                break
            front += found[0][0] + other
            text = found[0][1]
            count += 1
        return decomposed(table, front + text)

    def test_against_the_occurrences(self):
        for table, texts, parts in cases():
            for part in parts[1::2]:
                for other, limit in (("", None), (table.characters[-1], 1), (part[::-1] + part, 2), (part, None),
                                     (table.characters[0], 0)):
                    found = replaced(table, texts[0], part, other, limit=limit)
                    self.assertEqual(found, self.replaced_by_search(table, texts[0], part, other, limit))

    def test_equivalent_arguments_give_equal_results(self):
        for table in sound_tables():
            sets = equivalent_texts(table, 2)
            for texts in sets[::3]:
                for parts in [one for one in sets if one[0]][::4]:
                    others = sets[len(texts) * len(parts) % len(sets)]
                    found = {replaced(table, one, part, other) for one in texts[:5] for part in parts[:5]
                             for other in (others[0], others[-1])}
                    self.assertEqual(len(found), 1)

    def test_limits(self):
        table = example_of_search()
        for limit, expected in ((0, "auauau"), (1, "avauau"), (2, "avavau"), (3, "avavav"), (4, "avavav"),
                                (10 ** 29, "avavav"), (None, "avavav")):
            self.assertEqual(replaced(table, "AauA", "u", "v", limit=limit), expected)
        self.assertEqual(replaced(table, "vu", "a", "u", limit=0), "uv")
        self.assertEqual(replaced(table, "AauA", "u", "v"), "avavav")
        for value in any_values() + [-1, -10 ** 29, "1", True, False, table]:
            if value is None or type(value) is int and value >= 0:
                continue
            with self.assertRaises(errors.InvalidInteger) as caught:
                replaced(table, "AauA", "u", "v", limit=value)
            self.assertIs(caught.exception.value, value)

    def test_what_was_put_in_is_not_searched(self):
        table = example_of_search()
        self.assertEqual(replaced(table, "aa", "a", "aa"), "aaaa")
        self.assertEqual(replaced(table, "uu", "u", "uu"), "uuuu")
        self.assertEqual(replaced(table, "aaa", "aa", "a"), "aa")
        self.assertEqual(replaced(table, "vuvu", "vu", ""), "")
        self.assertEqual(replaced(table, "", "a", "u"), "")
        self.assertEqual(replaced(table, "Av", "a", "v"), "uvv")

    def test_results_of_any_length(self):
        lines = ["a 0", "b 0", "B 0 = bb", "C 0 = BB", "D 0 = CC", "A 0 = aa", "E 0 = AA", "F 0 = EE"]
        table = Table.from_text("\n".join(lines))
        self.assertEqual(replaced(table, "F" * 60, "a", "D" * 60), "b" * (480 * 480))
        self.assertEqual(replaced(table, "F" * 60, "F", "D" * 60, limit=59), "b" * (59 * 480) + "a" * 8)
        marks = Table({"u": 1, "v": 2})
        self.assertEqual(replaced(marks, "u" * 60, "u", "vu" * 30), "u" * 1800 + "v" * 1800)

    def test_the_empty_part(self):
        table = example_of_search()
        for text, other, limit in (("a", "a", None), ("", "", 0), ("a", "?", None), ("a", None, True)):
            part = ""
            with self.assertRaises(errors.InvalidText) as caught:
                replaced(table, text, part, other, limit=limit)
            self.assertIs(caught.exception.value, part)
        self.assertEqual(replaced(table, "Au", "u", ""), "a")


class WrongArgumentsTest(ErrorCase):
    CALLS = [
        (occurrences, 2, {}),
        (occurrence_count, 2, {}),
        (occurs, 2, {}),
        (absence, 2, {}),
        (is_absence, 2, {"value": None}),
        (replaced, 3, {"limit": True}),
    ]

    def test_the_first_error_that_applies(self):
        table = example_of_search()
        for function, count, more in self.CALLS:
            for value in any_values() + ["a", [table]]:
                self.expect(errors.InvalidTable, [value], function, value, *["?"] * count, **more)
            with self.assertRaises(errors.Unsound) as caught:
                function(unsound(), *["?"] * count, **more)
            self.assertEqual((caught.exception.first, caught.exception.second), ("W", "v"))
            for value in any_values() + ["B", "a" * 61, table, ["a"]]:
                for at in range(count):
                    texts = ["a"] * at + [value] + [None] * (count - at - 1)
                    self.expect(errors.InvalidText, [value], function, table, *texts, **more)

    def test_texts_before_the_number_of_occurrences(self):
        table = all_marks()
        many = "123456789" * 6
        self.expect(errors.InvalidText, [None], occurrences, table, many, None)
        self.expect(errors.InvalidText, ["?"], occurrences, table, many, "?")
        with self.assertRaises(errors.TooMany):
            occurrences(table, many, "")

    def test_arguments_by_name(self):
        table = example_of_search()
        self.assertEqual(occurrences(part="u", text="Av", table=table), [("a", "v"), ("av", "")])
        self.assertEqual(occurrence_count(part="u", text="Av", table=table), 2)
        self.assertIs(occurs(part="u", text="Av", table=table), True)
        self.assertEqual(absence(part="va", text="A", table=table), [(0, "run", 0, 2), (1, "short")])
        self.assertIs(is_absence(value=[(1, "short"), (0, "run", 0, 2)], part="va", text="A", table=table), True)
        self.assertEqual(replaced(limit=1, other="v", part="u", text="Au", table=table), "auv")
        with self.assertRaises(TypeError):
            replaced(table, "Au", "u", "v", 1)


class RandomSearchTest(unittest.TestCase):
    def test_long_texts(self):
        chance = random.Random(4)
        table = Table({"a": 0, "b": 0, "u": 1, "x": 1, "v": 2, "w": 3})
        for _ in range(300):
            text = "".join(chance.choices("aabuuxvw", k=chance.randint(0, 20)))
            start = chance.randint(0, len(text))
            part = text[start:start + chance.randint(0, 6)]
            reasons = all_reasons(table, text, part)
            self.assertIs(occurs(table, text, part), True)
            self.assertIn([], reasons)
            part = "".join(chance.choices("aabuuxvw", k=chance.randint(1, 4)))
            expected = None if [] in all_reasons(table, text, part) else [
                rows[0] for rows in all_reasons(table, text, part)]
            self.assertEqual(absence(table, text, part), expected)
            for front, behind in occurrences(table, text, part):
                self.assertEqual(decomposed(table, front + part + behind), decomposed(table, text))

    def test_counts_are_products(self):
        table = all_marks()
        for text in ("1" * 5 + "2" * 7, "999" + "111" + "5555"):
            sizes = [text.count(rank) for rank in sorted(set(text))]
            self.assertEqual(occurrence_count(table, text, ""), math.prod([size + 1 for size in sizes]))
