import copy
import itertools
import math
import random
import unittest

from canontext import errors
from canontext.matching import accepted_at, accepted_count, each_accepted, is_refutation, matches, refutation
from canontext.matching import some_variant
from canontext.patterns import Pattern, closure_gap
from canontext.rests import beginnings, rest_after, rests
from canontext.soundness import decomposed
from canontext.tables import Table
from tests.values import any_values, equivalent_texts, no_integers, sound_tables, unsound
from tests.ways import accepts, random_tree, written


def example_of_matching():
    """The table of the example behind point 113."""
    return Table({"a": 0, "u": 1, "v": 2, "A": 0}, decompositions={"A": "au"})


def two_names():
    """A table of a base and a composite of it: each of them may stand for the other one."""
    return Table({"a": 0, "A": 0}, decompositions={"A": "a"})


def cases():
    """Patterns with texts, all texts that are equivalent to them by steps, and the accepted ones of these."""
    chance = random.Random(21)
    for table in sound_tables():
        for texts in equivalent_texts(table, 2)[::2] + equivalent_texts(table, 3)[-12:]:
            for _ in range(3):
                tree = random_tree(chance, table.characters, chance.randint(1, 6))
                accepted = [text for text in texts if accepts(tree, text)]
                yield Pattern(table, written(tree)), [text for text in texts if len(text) <= 60], accepted


def refutes(pattern, text, value):
    """Whether a list of distinct tuples is a refutation, as point 112 has it."""
    table = pattern.table
    found = rests(table, text)
    if len(set(value)) < len(value) or (decomposed(table, text), 0) not in value:
        return False
    for rest, state in value:
        if rest not in found or state not in range(len(pattern)):
            return False
        if rest == "" and state in pattern.accepting():
            return False
        for character in beginnings(table, rest):
            if (rest_after(table, rest, character), pattern.state_after(character, start=state)) not in value:
                return False
    return True


class AcceptedTest(unittest.TestCase):
    def test_example_of_point_113(self):
        table = example_of_matching()
        pattern = Pattern(table, "A.|avu")
        self.assertEqual([pattern("auv"), accepted_count(pattern, "auv"), some_variant(pattern, "auv"),
                          list(each_accepted(pattern, "auv", start=1))], [False, 2, "Av", ["avu"]])
        self.assertEqual([matches(pattern, "au"),
                          is_refutation(Pattern(table, "v.*"), "A", [("u", 1), ("au", 0), ("", 1)])], [False, True])

    def test_the_accepted_ones_of_all_equivalent_texts(self):
        none = 0
        for pattern, texts, accepted in cases():
            for text in {texts[0], texts[-1]}:
                self.assertEqual(accepted_count(pattern, text), len(accepted), (str(pattern.table), pattern.text, text))
                self.assertEqual(list(each_accepted(pattern, text)), accepted)
                self.assertEqual(some_variant(pattern, text), accepted[0] if accepted else None)
                self.assertIs(matches(pattern, text), bool(accepted))
                found = [accepted_at(pattern, text, index) for index in range(min(len(accepted), 20))]
                self.assertEqual(found, accepted[:20])
                for start in (1, 2, len(accepted) // 2, len(accepted), len(accepted) + 1, 10 ** 29):
                    self.assertEqual(list(each_accepted(pattern, text, start=start)), accepted[start:])
            none += not accepted
        self.assertGreater(none, 50)

    def test_none_and_all(self):
        table = example_of_matching()
        for text in ("", "auv", "vuA", "uv"):
            total = accepted_count(Pattern(table, ".*"), text)
            self.assertEqual(total, len(list(each_accepted(Pattern(table, ".*"), text))))
            nothing = Pattern(table, "[^aAuv]")
            self.assertEqual([accepted_count(nothing, text), some_variant(nothing, text),
                              list(each_accepted(nothing, text)), matches(nothing, text)], [0, None, [], False])
        self.assertEqual([some_variant(Pattern(table, ""), ""), accepted_count(Pattern(table, ""), ""),
                          accepted_at(Pattern(table, ""), "", 0), list(each_accepted(Pattern(table, ""), ""))],
                         ["", 1, "", [""]])

    def test_far_too_many_to_go_through(self):
        table = two_names()
        text = "a" * 60
        self.assertEqual(accepted_count(Pattern(table, ".*"), text), 2 ** 60)
        self.assertEqual(accepted_count(Pattern(table, ".*a.*"), text), 2 ** 60 - 1)
        self.assertEqual(accepted_count(Pattern(table, "(.a)*"), text), 2 ** 30)
        self.assertEqual(accepted_count(Pattern(table, "(A|aa)*"), text), 2504730781961)
        pattern = Pattern(table, ".*a.*")
        self.assertEqual(some_variant(pattern, text), "A" * 59 + "a")
        self.assertEqual(accepted_at(pattern, text, 0), "A" * 59 + "a")
        self.assertEqual(accepted_at(pattern, text, 2 ** 60 - 2), "a" * 60)
        self.assertEqual(accepted_at(pattern, text, 2 ** 59 - 1), "a" + "A" * 59)
        for index in (2 ** 60 - 1, 2 ** 60, -1):
            with self.assertRaises(errors.UnknownIndex) as caught:
                accepted_at(pattern, text, index)
            self.assertIs(caught.exception.value, index)
        self.assertEqual(list(each_accepted(pattern, text, start=2 ** 60 - 3)), ["a" * 59 + "A", "a" * 60])
        self.assertEqual(list(each_accepted(pattern, text, start=2 ** 60 - 1)), [])
        self.assertEqual(list(each_accepted(pattern, text, start=2 ** 60)), [])

    def test_variants_of_any_length_count(self):
        table = Table.from_text("a 0\nA 0 = aa\nB 0 = AA\nC 0 = BB")
        self.assertEqual(some_variant(Pattern(table, "a*"), "C" * 60), "a" * 480)
        self.assertEqual(accepted_count(Pattern(table, "[aA]*"), "C" * 8), 17167680177565)
        self.assertEqual(accepted_at(Pattern(table, "a*|C*"), "C" * 60, 1), "a" * 480)

    def test_orders_of_marks(self):
        table = Table({"u": 1, "v": 2})
        self.assertEqual(accepted_count(Pattern(table, ".*"), "uv" * 30), math.comb(60, 30))
        self.assertEqual(accepted_count(Pattern(table, "u.*v"), "uv" * 30), math.comb(58, 29))
        self.assertEqual(some_variant(Pattern(table, "v.*u"), "uv" * 30), "v" + "u" * 29 + "v" * 29 + "u")
        self.assertIs(matches(Pattern(table, "v.*u.*v.*"), "uv"), False)

    def test_equivalent_texts_give_the_same_result(self):
        for pattern, texts, accepted in cases():
            if closure_gap(pattern) is None:
                self.assertEqual({pattern(text) for text in texts}, {matches(pattern, texts[-1])})
                self.assertIn(len(accepted), (0, len(list(each_accepted(Pattern(pattern.table, ".*"), texts[0])))))


class EachAcceptedTest(unittest.TestCase):
    def test_errors_when_it_is_iterated(self):
        pattern = Pattern(example_of_matching(), ".*")
        for arguments, error in (((None, "a"), errors.InvalidPattern), ((pattern, None), errors.InvalidText),
                                 ((Pattern(unsound(), "u"), "u"), errors.Unsound)):
            generator = each_accepted(*arguments)
            with self.assertRaises(error):
                next(generator)
        for value in no_integers() + [-1, -10 ** 29, True, False]:
            generator = each_accepted(pattern, "auv", start=value)
            with self.assertRaises(errors.InvalidInteger) as caught:
                next(generator)
            self.assertIs(caught.exception.value, value)
        with self.assertRaises(TypeError):
            each_accepted(pattern, "auv", 1)

    def test_only_what_is_asked_for(self):
        generator = each_accepted(Pattern(two_names(), ".*a."), "a" * 60)
        self.assertIs(iter(generator), generator)
        self.assertEqual([next(generator), next(generator), next(generator)],
                         ["A" * 58 + "aA", "A" * 58 + "aa", "A" * 57 + "aaA"])
        other = each_accepted(Pattern(two_names(), ".*a."), "a" * 60, start=2 ** 58)
        self.assertEqual(next(other), "a" + "A" * 57 + "aA")
        self.assertEqual(next(generator), "A" * 57 + "aaa")

    def test_many_in_order(self):
        table = example_of_matching()
        pattern = Pattern(table, "(.a?.)*v")
        found = list(itertools.islice(each_accepted(pattern, "auv" * 12, start=10 ** 4), 2000))
        self.assertEqual(found, sorted(set(found)))
        self.assertEqual([accepted_at(pattern, "auv" * 12, 10 ** 4 + at) for at in range(0, 2000, 400)], found[::400])
        self.assertEqual({decomposed(table, text) for text in found}, {"auv" * 12})
        self.assertNotIn(False, [pattern(text) for text in found])


class RefutationTest(unittest.TestCase):
    def test_as_point_112_says(self):
        for pattern, texts, accepted in itertools.islice(cases(), 0, None, 3):
            found = refutation(pattern, texts[0])
            self.assertIs(found is None, bool(accepted))
            if found is None:
                continue
            self.assertIs(type(found), list)
            self.assertTrue(refutes(pattern, texts[0], found))
            for text in texts[:3]:
                self.assertIs(is_refutation(pattern, text, found), True)
                self.assertIs(is_refutation(pattern, text, found[::-1]), True)
            for at in range(len(found)):
                value = found[:at] + found[at + 1:]
                self.assertIs(is_refutation(pattern, texts[0], value), refutes(pattern, texts[0], value))

    def test_with_more_tuples(self):
        chance = random.Random(22)
        wrong = right = 0
        for pattern, texts, accepted in itertools.islice(cases(), 0, None, 4):
            pairs = [(rest, state) for rest in rests(pattern.table, texts[0]) for state in range(len(pattern))]
            if len(pairs) > 60:
                continue
            kept = [pair for pair in pairs if pair[0] or pair[1] not in pattern.accepting()]
            for value in (pairs, kept, kept[::2], chance.sample(kept, len(kept) // 2)):
                expected = refutes(pattern, texts[0], value)
                self.assertIs(is_refutation(pattern, texts[0], value), expected)
                self.assertFalse(expected and accepted)
                right += expected
                wrong += not expected
        self.assertGreater(min(right, wrong), 30)

    def test_other_values(self):
        table = example_of_matching()
        pattern = Pattern(table, "v.*")
        found = [("au", 0), ("u", 1), ("", 1)]
        self.assertEqual(pattern.state_after("a"), 1)
        for order in itertools.permutations(found):
            self.assertIs(is_refutation(pattern, "A", list(order)), True)
        more = [tuple(found), found + found[:1], found[1:], found[:2], [("au", 0), ("", 1)],
                [list(pair) for pair in found],
                [("au", False), *found[1:]], [("au", 0), ("u", True), ("", 1)], found + [("", True)], found + [("", 2)],
                found + [("", 3)], found + [("", -1)], found + [("a", 1)], found + [("ua", 1)], found + [("A", 1)],
                found + [("", 1, 1)], found + [("",)], found + [()], found + [("", "1")], found + [("", None)],
                found + [(None, 1)], found + [(["u"], 1)], found + [(("u",), 1)], found + [({}, 1)], found + [None],
                found + ["u1"], found + [["u", 1]], found + [(table, 1)], found + [("u", table)], dict(found), table,
                pattern, [], [("au", 0)], found + [("u", 10 ** 29)], [("au", 1), ("u", 1), ("", 1)]]
        for value in more + any_values():
            kept = list(value) if isinstance(value, list) else copy.copy(value)
            self.assertIs(is_refutation(pattern, "A", value), False, value)
            if isinstance(value, list):
                self.assertTrue(len(value) == len(kept) and all(one is other for one, other in zip(value, kept)))
        self.assertIs(is_refutation(pattern, "A", found + [("u", 0), ("", 0)]), True)
        self.assertIs(is_refutation(pattern, "A", found + [("u", 2)]), False)
        self.assertIs(is_refutation(Pattern(table, "A"), "A", found), False)

    def test_lists_are_new(self):
        pattern = Pattern(example_of_matching(), "v.*")
        found = refutation(pattern, "A")
        found.clear()
        self.assertEqual(len(refutation(pattern, "A")), 3)
        self.assertIsNot(refutation(pattern, "A"), refutation(pattern, "A"))

    def test_rests_of_more_than_sixty_characters(self):
        table = example_of_matching()
        pattern = Pattern(table, ".*v")
        found = refutation(pattern, "A" * 60)
        self.assertIn(("au" * 60, 0), found)
        self.assertIs(is_refutation(pattern, "A" * 60, found), True)
        self.assertIs(is_refutation(pattern, "A" * 60, found[:-1]), False)
        self.assertIs(is_refutation(pattern, "A" * 59, found), False)


class WrongArgumentsTest(unittest.TestCase):
    CALLS = [
        (accepted_count, []),
        (some_variant, []),
        (accepted_at, [-1]),
        (lambda pattern, text: list(each_accepted(pattern, text, start=-1)), []),
        (refutation, []),
        (is_refutation, [None]),
        (matches, []),
    ]

    def test_the_first_error_that_applies(self):
        table = example_of_matching()
        for function, more in self.CALLS:
            for value in any_values() + [table, "a", ".*", [Pattern(table, "a")]]:
                for text in ("a", None):
                    with self.assertRaises(errors.InvalidPattern) as caught:
                        function(value, text, *more)
                    self.assertIs(caught.exception.value, value)
            for text in ("u", "?", None):
                with self.assertRaises(errors.Unsound) as caught:
                    function(Pattern(unsound(), "W"), text, *more)
                self.assertEqual((caught.exception.first, caught.exception.second), ("W", "v"))
            for value in any_values() + ["b", "a" * 61, table]:
                with self.assertRaises(errors.InvalidText) as caught:
                    function(Pattern(table, "a"), value, *more)
                self.assertIs(caught.exception.value, value)

    def test_too_many_rests(self):
        table = Table({"a": 0, **{str(rank): rank for rank in range(1, 10)}})
        text = "4444" + "3333" + "2222" + "1567"
        self.assertEqual(accepted_count(Pattern(table, ".*"), text), math.factorial(16) // math.factorial(4) ** 3)
        for function, more in self.CALLS:
            for total, longer in ((2001, text + "a"), (4000, text + "8")):
                with self.assertRaises(errors.TooMany) as caught:
                    function(Pattern(table, "a"), longer, *more)
                self.assertEqual(caught.exception.total, total)

    def test_indices(self):
        pattern = Pattern(example_of_matching(), "A.|avu")
        self.assertEqual([accepted_at(pattern, "auv", 0), accepted_at(pattern, "auv", 1)], ["Av", "avu"])
        for value in no_integers() + [-1, 2, 10 ** 29, -10 ** 29, True, False, pattern]:
            with self.assertRaises(errors.UnknownIndex) as caught:
                accepted_at(pattern, "auv", value)
            self.assertIs(caught.exception.value, value)
        with self.assertRaises(errors.UnknownIndex):
            accepted_at(Pattern(example_of_matching(), "v"), "auv", 0)

    def test_arguments_by_name(self):
        pattern = Pattern(example_of_matching(), "A.|avu")
        self.assertEqual(accepted_count(text="auv", pattern=pattern), 2)
        self.assertEqual(some_variant(text="auv", pattern=pattern), "Av")
        self.assertEqual(accepted_at(index=1, text="auv", pattern=pattern), "avu")
        self.assertEqual(list(each_accepted(start=1, text="auv", pattern=pattern)), ["avu"])
        self.assertIsNone(refutation(text="auv", pattern=pattern))
        self.assertIs(is_refutation(value=[], text="auv", pattern=pattern), False)
        self.assertIs(matches(text="auv", pattern=pattern), True)
