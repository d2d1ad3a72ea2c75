import itertools
import random
import re
import unittest

from canontext import errors
from canontext.patterns import Pattern, closure_gap, is_gap
from canontext.soundness import rules
from canontext.tables import Table
from tests.values import any_values, example, sound_tables, steps_from, texts_up_to, unsound
from tests.ways import accepts, random_tree, written


def example_of_patterns():
    """The table of the example behind point 104."""
    return Table({"a": 0, "x": 1, "y": 2, "A": 0}, decompositions={"A": "ax"})


def letters(characters):
    """A table of bases."""
    return Table({character: 0 for character in characters})


def is_pattern(text, characters):
    """Whether a string is a pattern, by replacing its items from within."""
    depth = 0
    for sign in re.sub(r"\[[^]]*\]", "", text):
        depth += (sign == "(") - (sign == ")")
        if depth > 20:
            return False
    for listed in re.findall(r"\[\^?([^]]*)\]", text):
        if len(set(listed)) < len(listed):
            return False
    text = re.sub(rf"\[\^?[{characters}]+\]|\.|[{characters}]", "#", text)
    if text.count("#") > 8:
        return False
    within = r"(?:[#!][*+?]*|\|)*"
    while re.search(rf"\({within}\)", text):
        text = re.sub(rf"\({within}\)", "!", text)
    return re.fullmatch(within, text) is not None


def can_go_on(text, characters):
    """Whether a pattern begins with a string."""
    inner = ["", "]", *[character + "]" for character in characters]]
    return any(is_pattern(text + end + ")" * depth, characters) for end in inner for depth in range(22))


def first_wrong(text, characters):
    """The position that InvalidSyntax has for a string, or None for a pattern."""
    for at in range(len(text)):
        if not can_go_on(text[:at + 1], characters):
            return at
    return None if is_pattern(text, characters) else len(text)


class SyntaxTest(unittest.TestCase):
    def expect(self, table, text, position):
        with self.assertRaises(errors.InvalidSyntax) as caught:
            Pattern(table, text)
        self.assertIs(type(caught.exception), errors.InvalidSyntax)
        self.assertEqual((caught.exception.position, type(caught.exception.position)), (position, int), text)

    def compare(self, table, text):
        position = first_wrong(text, table.characters)
        if position is None:
            self.assertEqual(Pattern(table, text).text, text)
        else:
            self.expect(table, text, position)

    def test_all_short_strings(self):
        table = letters("ab")
        for length in range(5):
            for row in itertools.product("a[]^()|*", repeat=length):
                text = "".join(row)
                # Only beginnings that are right, and the first character that is wrong.
                if first_wrong(text[:-1], "ab") in (None, len(text) - 1):
                    self.compare(table, text)

    def test_random_strings(self):
        chance = random.Random(3)
        table = letters("ab1")
        for _ in range(1500):
            text = "".join(chance.choices("ab1.[]^()|*+?" + "ab()[]", k=chance.randint(5, 14)))
            self.compare(table, text)

    def test_single_faults(self):
        table = example_of_patterns()
        for text, position in (
            ("*", 0), ("+a", 0), ("a|?", 2), ("(*)", 1), ("()*", None), ("a*+?*", None), (")", 0), ("a)", 1),
            ("(a))", 3), ("(", 1), ("(a|", 3), ("((a)", 4), ("a]", 1), ("^a", 0), ("[]", 1), ("[^]", 2), ("[", 1),
            ("[a", 2), ("[^", 2), ("[^a", 3), ("[aa]", 2), ("[axa", 3), ("[^aa]", 3), ("[a^]", 2), ("[.]", 1),
            ("[a|x]", 2), ("[(]", 1), ("b", 0), ("aB", 1), ("[b]", 1), ("a b", 1), (" ", 0), ("a\n", 1), ("a-", 1),
            ("\\a", 0), ("", None), ("|", None), ("||a", None), ("(|)", None), ("[^aAxy]", None), ("[aAxya]", 5),
            ("a{2}", 1), ("aé", 1),
        ):
            if position is None:
                self.assertEqual(str(Pattern(table, text)), text)
            else:
                self.expect(table, text, position)

    def test_places(self):
        table = example_of_patterns()
        for eight in ("a" * 8, "." * 8, "[ax]" * 8, "a.[x]" * 2 + "(A|y)", "(a*|x)+" * 4, "[^a]" * 8):
            self.assertEqual(Pattern(table, eight).text, eight)
            for more in ("()", "|", "*", "(|()*)?", "|()|"):
                self.assertEqual(Pattern(table, eight + more).text, eight + more)
            for ninth in ("a", ".", "[a]", "[", "[b", "a(", "a?", ".*"):
                self.expect(table, eight + ninth, len(eight))
                self.expect(table, eight + "|" + ninth, len(eight) + 1)
                self.expect(table, eight + "(" + ninth, len(eight) + 1)
            self.expect(table, eight + "b", len(eight))
        self.assertEqual(len(Pattern(table, "[aAxy]" * 8)), 10)

    def test_brackets_in_one_another(self):
        table = example_of_patterns()
        text = "(" * 20 + "a" + ")" * 20
        self.assertEqual(Pattern(table, text), Pattern(table, "a"))
        self.assertEqual(Pattern(table, text + text).text, text * 2)
        self.assertEqual(Pattern(table, "()" * 500 + text), Pattern(table, "a"))
        self.expect(table, "(" * 21, 20)
        self.expect(table, "(" * 21 + "a" + ")" * 21, 20)
        self.expect(table, "(" + "()" * 30 + "(" * 19 + "a(", 1 + 60 + 19 + 1)
        self.expect(table, "(" * 20, 20)
        self.expect(table, "(" * 20 + ")" * 19, 39)
        self.expect(table, "(" * 20 + ")" * 21, 40)

    def test_what_is_no_string(self):
        table = example_of_patterns()
        for value in [one for one in any_values() if not isinstance(one, str)] + [table, Pattern(table, "a"), b"a"]:
            self.expect(table, value, -1)

    def test_what_is_no_table(self):
        for value in any_values() + ["a", [example()]]:
            for text in ("a", "*", None):
                with self.assertRaises(errors.InvalidTable) as caught:
                    Pattern(value, text)
                self.assertIs(caught.exception.value, value)

    def test_a_table_that_is_not_sound(self):
        pattern = Pattern(unsound(), "[uv]W*")
        self.assertEqual([pattern("vWW"), pattern("W"), len(pattern)], [True, False, 3])

    def test_long_patterns(self):
        table = example_of_patterns()
        for text in ("a" + "*" * 3999, "(a|x)" + "?+*" * 1200, "(()|()*)" * 500, "|" * 4000, "a|" * 8 + "|" * 3980):
            self.assertLessEqual(len(Pattern(table, text)), 3)
            self.assertEqual(Pattern(table, text).text, text)


class AcceptedTest(unittest.TestCase):
    def test_example_of_point_104(self):
        table = example_of_patterns()
        pattern = Pattern(table, "a[xy]*|A")
        self.assertEqual([pattern("ayx"), pattern("Ay"), len(pattern), pattern == Pattern(table, "A|a(x|y)*"),
                          closure_gap(pattern)[1:3] in (("xy", "yx"), ("A", "ax"), ("ax", "A"))],
                         [True, False, 4, True, True])

    def test_by_following_all_ways(self):
        chance = random.Random(11)
        for characters in ("a", "ab", "abc"):
            table = letters(characters)
            texts = texts_up_to(table, 5 if len(characters) < 3 else 4)
            for _ in range(200):
                tree = random_tree(chance, characters, chance.randint(0, 8))
                pattern = Pattern(table, written(tree))
                for text in texts:
                    self.assertIs(pattern(text), accepts(tree, text), (pattern.text, text))

    def test_equivalence_has_no_effect(self):
        pattern = Pattern(example_of_patterns(), "A")
        self.assertEqual([pattern("A"), pattern("ax"), pattern("")], [True, False, False])

    def test_items(self):
        table = example_of_patterns()
        for text, accepted, refused in (
            ("", [""], ["a", "A"]),
            ("()", [""], ["a"]),
            ("a|", ["", "a"], ["aa", "x"]),
            (".", ["a", "A", "x", "y"], ["", "aa"]),
            ("[xa]", ["a", "x"], ["", "y", "A", "ax"]),
            ("[^xa]", ["y", "A"], ["", "a", "x"]),
            ("[^aAxy]", [], ["", "a", "y"]),
            ("[^aAxy]*", [""], ["a", "y"]),
            ("[^aAxy]|a", ["a"], ["", "y"]),
            ("ax*", ["a", "ax", "axx"], ["", "x", "axa", "axax"]),
            ("(ax)*", ["", "ax", "axax"], ["a", "axa", "axx"]),
            ("ax+", ["ax", "axx"], ["a", "axax"]),
            ("ax?", ["a", "ax"], ["axx"]),
            ("x+?", ["", "x", "xx"], ["a"]),
            ("x?+", ["", "x", "xx"], ["a"]),
            ("x*?+*", ["", "xxx"], ["y"]),
            ("a|xy|A", ["a", "xy", "A"], ["ay", "axy", "xA", ""]),
            ("a(|x|y+)A", ["aA", "axA", "ayyA"], ["axyA", "axx", "A"]),
            ("(a*x*)*", ["", "axxaa"], ["y"]),
            ("((a|x)(y|A))+", ["ay", "xAay"], ["", "axy", "a"]),
        ):
            pattern = Pattern(table, text)
            for one in accepted + refused:
                self.assertIs(pattern(one), one in accepted, (text, one))

    def test_texts_of_sixty_characters(self):
        pattern = Pattern(example_of_patterns(), "(a?x)*")
        self.assertIs(pattern("ax" * 30), True)
        self.assertIs(pattern("a" * 60), False)
        with self.assertRaises(errors.InvalidText):
            pattern("x" * 61)

    def test_wrong_texts(self):
        table = example_of_patterns()
        pattern = Pattern(table, "a*")
        for value in any_values() + ["b", "a" * 61, "a?", table, pattern]:
            for call in (lambda: pattern(value), lambda: pattern(text=value), lambda: pattern.state_after(value),
                         lambda: pattern.state_after(value, start=-1), lambda: pattern.state_after(value, start=None)):
                with self.assertRaises(errors.InvalidText) as caught:
                    call()
                self.assertIs(caught.exception.value, value)


class StatesTest(unittest.TestCase):
    def test_the_smallest_table_in_its_order(self):
        chance = random.Random(12)
        compared = 0
        for characters, length in (("a", 9), ("ab", 4), ("abc", 3)):
            table = letters(characters)
            more = texts_up_to(table, 8 if len(characters) == 1 else length + 1)
            for _ in range(120):
                tree = random_tree(chance, characters, chance.randint(0, 5))
                pattern = Pattern(table, written(tree))
                if len(pattern) > length + 2:
                    continue
                compared += 1
                known = {}
                for text in texts_up_to(table, length):
                    accepted = tuple(accepts(tree, text + behind) for behind in more)
                    known.setdefault(accepted, len(known))
                    self.assertEqual(pattern.state_after(text), known[accepted], (pattern.text, text))
                self.assertEqual(len(pattern), len(known))
                self.assertEqual(pattern.accepting(), [number for accepted, number in known.items() if accepted[0]])
        self.assertGreater(compared, 200)

    def test_numbers(self):
        table = letters("ab")
        for text, states, accepting in (("", 2, [0]), ("b|aa", 4, [2]), (".*", 1, [0]), ("[^ab]", 1, []),
                                        ("a*", 2, [0]), ("(a|b)*", 1, [0]), ("ab", 4, [3]), ("a?b?", 4, [0, 1, 2])):
            pattern = Pattern(table, text)
            self.assertEqual((len(pattern), pattern.accepting()), (states, accepting), text)
            self.assertIs(type(len(pattern)), int)
        self.assertEqual(len(Pattern(table, "." * 8)), 10)
        self.assertEqual(len(Pattern(table, "[ab]*a" + "." * 6)), 128)
        self.assertEqual(len(Pattern(table, "a" * 8)), 10)

    def test_states_after_each_other(self):
        chance = random.Random(13)
        table = letters("abc")
        for _ in range(60):
            pattern = Pattern(table, written(random_tree(chance, "abc", 8)))
            for _ in range(20):
                one, other = ["".join(chance.choices("abc", k=chance.randint(0, 5))) for _ in range(2)]
                state = pattern.state_after(one)
                self.assertEqual(pattern.state_after(other, start=state), pattern.state_after(one + other))
                self.assertIs(state in pattern.accepting(), pattern(one))
            for state in range(len(pattern)):
                self.assertEqual(pattern.state_after("", start=state), state)

    def test_wrong_starts(self):
        table = letters("ab")
        pattern = Pattern(table, "ab")
        self.assertEqual([pattern.state_after("b", start=state) for state in range(4)], [2, 3, 2, 2])
        values = [value for value in any_values() if type(value) is not int]
        for value in values + [-1, 4, 10 ** 29, True, False, "0", "a", table, pattern]:
            with self.assertRaises(errors.InvalidInteger) as caught:
                pattern.state_after("a", start=value)
            self.assertIs(caught.exception.value, value)
        with self.assertRaises(TypeError):
            pattern.state_after("a", 0)
        self.assertEqual(pattern.state_after(start=1, text="b"), 3)

    def test_lists_are_new(self):
        pattern = Pattern(letters("ab"), "a?")
        pattern.accepting().clear()
        self.assertEqual(pattern.accepting(), [0, 1])
        self.assertIsNot(pattern.accepting(), pattern.accepting())

    def test_table_text_and_str(self):
        table = example_of_patterns()
        pattern = Pattern(text="a|(x)", table=table)
        self.assertEqual([pattern.table, pattern.text, str(pattern)], [table, "a|(x)", "a|(x)"])
        self.assertEqual(str(Pattern(table, "")), "")

    def test_equal(self):
        table = example_of_patterns()
        for one, other in (("a[xy]*|A", "A|a(x|y)*"), ("a", "[a]"), (".", "[aAxy]"), ("[^a]", "A|x|y"), ("", "()*"),
                           ("a+", "aa*"), ("(a*x*)*", "(a|x)*"), ("[^aAxy]", "a[^aAxy]"), (".*", "(.?)*|a")):
            self.assertIs(Pattern(table, one) == Pattern(example_of_patterns(), other), True, (one, other))
            self.assertIs(Pattern(table, one) != Pattern(table, other), False)

    def test_not_equal(self):
        table = example_of_patterns()
        pattern = Pattern(table, "a*")
        more = Table({"a": 0, "x": 1, "y": 2, "A": 0, "b": 0}, decompositions={"A": "ax"})
        others = [Pattern(table, "a+"), Pattern(table, "a?"), Pattern(more, "a*"), Pattern(table, ""),
                  Pattern(table, ".*"),
                  Pattern(Table({"a": 0, "x": 1, "y": 2, "A": 0}), "a*"), table, "a*"]
        for other in others + any_values():
            self.assertIs(pattern == other, False)
            self.assertIs(pattern != other, True)

    def test_equal_exactly_if_the_same_texts_are_accepted(self):
        chance = random.Random(14)
        table = letters("ab")
        texts = texts_up_to(table, 6)
        trees = [random_tree(chance, "ab", 2) for _ in range(50)]
        accepted = [[accepts(tree, text) for text in texts] for tree in trees]
        patterns = [Pattern(table, written(tree)) for tree in trees]
        for one, other in itertools.combinations(range(50), 2):
            self.assertIs(patterns[one] == patterns[other], accepted[one] == accepted[other])


class ClosureTest(unittest.TestCase):
    def small_patterns(self):
        """Patterns over small tables, each with its tree."""
        chance = random.Random(15)
        for table in sound_tables() + [unsound()]:
            for _ in range(40):
                tree = random_tree(chance, table.characters, chance.randint(0, 4))
                yield Pattern(table, written(tree)), tree

    def test_gaps_by_single_steps(self):
        closed = 0
        for pattern, tree in self.small_patterns():
            found = closure_gap(pattern)
            if found is None:
                closed += 1
                for text in texts_up_to(pattern.table, 3):
                    for other in steps_from(pattern.table, text):
                        self.assertIs(accepts(tree, text), accepts(tree, other))
            else:
                self.assertEqual([type(found), *map(type, found)], [tuple] + [str] * 4)
                before, left, right, after = found
                self.assertTrue({(left, right), (right, left)} & set(rules(pattern.table)))
                self.assertIsNot(accepts(tree, before + left + after), accepts(tree, before + right + after))
                self.assertIs(is_gap(pattern, found), True)
        self.assertGreater(closed, 20)

    def test_all_tuples_of_short_texts(self):
        table = example_of_patterns()
        short = ["", "a", "x", "y"]
        sides = rules(table)
        for text in ("a[xy]*|A", "A.*", "(ax|A)*", ".*", "[xy]*", "axy", ""):
            pattern = Pattern(table, text)
            for before in short:
                for after in short:
                    for left, right in itertools.product(["A", "ax", "xy", "yx", "a", ""], repeat=2):
                        is_rule = (left, right) in sides or (right, left) in sides
                        gap = is_rule and pattern(before + left + after) != pattern(before + right + after)
                        self.assertIs(is_gap(pattern, (before, left, right, after)), gap)

    def test_closed_patterns(self):
        table = example_of_patterns()
        for text in ("", ".*", "[^aAxy]", "a", "(ax|A)*", "[xy]*", "x|y", "(.|..)*a*|.*", "A|ax", "Ay|axy|ayx"):
            pattern = Pattern(table, text)
            gap = closure_gap(pattern)
            closed = all(pattern(one) == pattern(other) for one in texts_up_to(table, 4)
                         for other in steps_from(table, one))
            self.assertIs(gap is None, closed, text)

    def test_values_that_are_no_gaps(self):
        pattern = Pattern(example_of_patterns(), "a[xy]*|A")
        wrong = [("", "A", "ax", ""), ["", "A", "ax", "x"], ("", "A", "ax"), ("", "A", "ax", "x", ""), (),
                 ("", "A", "a", ""), ("", "A", "b", ""), ("", "A", None, ""), (None, "A", "ax", "x"),
                 ("", "A", "ax", 0),
                 ("a", "xy", "yx", ""), ("", "A", ["ax"], "x"), ("", ("A",), "ax", "x"), ("b", "A", "ax", "x"),
                 ("", "A", "ax", "?"), "Aax", {"": 1}, pattern, pattern.table, ("", "xy", "xy", "")]
        for value in wrong + any_values():
            self.assertIs(is_gap(pattern, value), False, value)
        for value in (("", "A", "ax", "x"), ("", "ax", "A", "y"), ("", "ax", "A", "x" * 100)):
            self.assertIs(is_gap(pattern, value), True)

    def test_texts_of_any_length(self):
        pattern = Pattern(example_of_patterns(), "a*Ax*|a*x*y?")
        self.assertIs(is_gap(pattern, ("a" * 4000, "A", "ax", "x" * 4000)), False)
        self.assertIs(is_gap(pattern, ("a" * 4000, "A", "ax", "x" * 3999 + "y")), True)
        self.assertIs(is_gap(pattern, ("a" * 4000, "ax", "A", "x" * 3999 + "y")), True)
        self.assertIs(is_gap(pattern, ("a" * 4000, "A", "ax", "x" * 3999 + "yy")), False)

    def test_a_closed_pattern_accepts_all_equivalent_texts_or_none(self):
        for pattern, tree in self.small_patterns():
            if closure_gap(pattern) is None:
                for text in texts_up_to(pattern.table, 2):
                    for other in steps_from(pattern.table, text):
                        self.assertIs(pattern(text), pattern(other))

    def test_what_is_no_pattern(self):
        for value in any_values() + ["a", ".*", example()]:
            for call in (lambda: closure_gap(value), lambda: is_gap(value, None), lambda: closure_gap(pattern=value),
                         lambda: is_gap(value=("", "A", "ax", "x"), pattern=value)):
                with self.assertRaises(errors.InvalidPattern) as caught:
                    call()
                self.assertIs(caught.exception.value, value)

    def test_tables_that_are_not_sound(self):
        pattern = Pattern(unsound(), "(uv)*")
        self.assertIs(is_gap(pattern, closure_gap(pattern)), True)
        self.assertIs(is_gap(Pattern(unsound(), "W"), ("", "W", "xu", "")), True)
        self.assertIsNone(closure_gap(Pattern(unsound(), ".*")))
