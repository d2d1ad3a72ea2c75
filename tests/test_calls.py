import copy
import itertools
import unittest

from canontext import characters, composing, errors, forms, mappings, matching, patterns, rests, revisions, search
from canontext import soundness, streams
from canontext.buffers import Buffer
from canontext.console import Console
from canontext.mappings import Mapping
from canontext.patterns import Pattern
from canontext.streams import Stream
from canontext.tables import Table
from canontext.variants import Variants
from tests.values import any_values

CLASSES = {"a": 0, "u": 1, "v": 2, "A": 0, "B": 0}
IMAGES = {"a": "a", "u": "v", "v": "u", "A": "av", "B": ""}


def new_table():
    return Table(CLASSES, decompositions={"A": "au", "B": "Av"}, excluded="B")


def old_table():
    return Table({"a": 0, "u": 1, "v": 2})


def new_mapping():
    return Mapping(new_table(), new_table(), IMAGES)


def new_pattern():
    return Pattern(new_table(), "a[uv]*|A")


def new_stream():
    stream = Stream(new_table())
    stream("aav")
    return stream


def new_buffer():
    buffer = Buffer(new_table(), "av")
    buffer.put(0, "u")
    buffer.put(0, "A")
    buffer.undo()
    return buffer


def new_console():
    console = Console()
    console.run_all(["table a 0 / u 1 / v 2 / A 0 = au", "text auv", "put 2 u", "put 0 a", "undo"])
    return console


def told(value):
    """What can be compared of a value, an object of the package or another one."""
    if isinstance(value, Table):
        return [str(value), len(value)]
    if isinstance(value, Variants):
        return [list(value.each()), value.variant_count, value.lengths(), value.distances(), value.shortest()]
    if isinstance(value, Stream):
        return [value.given, value.held, value.pieces, value.closed, None if value.closed else value.changer()]
    if isinstance(value, Buffer):
        return [value.text, value.form, len(value), value.last_change, [value[at] for at in range(len(value))]]
    if isinstance(value, Pattern):
        return [str(value), len(value), value.accepting(), told(value.table), value.state_after("av")]
    if isinstance(value, Mapping):
        return [value.images(), told(value.source), told(value.target), value("aAuv"[:len(value.images())])]
    if isinstance(value, Console):
        ends = []
        for line in ("undo", "redo"):
            other = value.clone()
            ends.append([line])
            try:
                while True:
                    ends[-1].append((other.run(line), other.text))
            except errors.Absent:
                pass
        return [told(value.table), value.text, value.form, ends, value.run("change")]
    if hasattr(value, "__next__"):
        return list(value)
    return value


# Each function or class: the arguments by position, those by name only, and arguments that are refused.
FUNCTIONS = [
    (characters.is_character, {"value": "a"}, {}, None),
    (characters.is_text, {"value": "ab", "characters": "abc"}, {}, None),
    (characters.in_order, {"characters": "baab0"}, {}, {"characters": "a b"}),
    (Table, {"classes": CLASSES}, {"decompositions": {"A": "au", "B": "Av"}, "excluded": "BB"}, {"classes": {"a": 10}}),
    (Table.from_text, {"text": "a 0\nu 1"}, {}, {"text": "a"}),
    (soundness.rules, {"table": new_table()}, {}, {"table": None}),
    (soundness.is_step, {"table": new_table(), "first": "Au", "second": "auu"}, {}, {"second": "?"}),
    (soundness.judge, {"table": new_table()}, {}, {"table": None}),
    (soundness.is_unsound_pair, {"table": new_table(), "value": ("u", "v")}, {}, {"table": 0}),
    (soundness.decomposed, {"table": new_table(), "text": "vBu"}, {}, {"text": "vBx"}),
    (forms.blocks, {"table": new_table(), "text": "vBu"}, {}, {"text": "a" * 61}),
    (forms.are_equivalent, {"table": new_table(), "one": "B", "other": "avu"}, {}, {"other": 1}),
    (forms.first_difference, {"table": new_table(), "one": "B", "other": "Au"}, {}, {"one": []}),
    (forms.path_between, {"table": new_table(), "one": "B", "other": "avu"}, {}, {"one": "b"}),
    (forms.is_path, {"table": new_table(), "one": "B", "other": "Av", "value": ["B", "Av"]}, {}, {"other": None}),
    (composing.composed, {"table": new_table(), "text": "avu"}, {}, {"text": None}),
    (composing.is_composed, {"table": new_table(), "text": "Av"}, {}, {"text": "x"}),
    (composing.formed, {"table": new_table()}, {}, {"table": {}}),
    (rests.rest_after, {"table": new_table(), "text": "B", "beginning": "av"}, {}, {"beginning": None}),
    (rests.beginnings, {"table": new_table(), "text": "auv"}, {}, {"text": 5}),
    (rests.rest_count, {"table": new_table(), "text": "auv"}, {}, {"text": "auvw"}),
    (rests.rests, {"table": new_table(), "text": "auv"}, {}, {"text": ["a"]}),
    (Variants, {"table": new_table(), "text": "auv"}, {}, {"text": "auvw"}),
    (Stream, {"table": new_table()}, {"composed": False}, {"composed": 1}),
    (streams.streamed, {"table": new_table(), "pieces": ["aav", "", "u"]}, {"composed": False}, {"pieces": ["a", 0]}),
    (Buffer, {"table": new_table(), "text": "avu"}, {"composed": False}, {"composed": 0}),
    (search.occurrences, {"table": new_table(), "text": "Bu", "part": "u"}, {}, {"part": "?"}),
    (search.occurrence_count, {"table": new_table(), "text": "Bu", "part": ""}, {}, {"part": None}),
    (search.occurs, {"table": new_table(), "text": "Bu", "part": "va"}, {}, {"text": None}),
    (search.absence, {"table": new_table(), "text": "Bu", "part": "va"}, {}, {"part": {}}),
    (search.is_absence, {"table": new_table(), "text": "a", "part": "aa", "value": [(1, "short"), (0, "short")]}, {},
     {"part": "aaA?"}),
    (search.replaced, {"table": new_table(), "text": "BuB", "part": "u", "other": "vv"}, {"limit": 1}, {"limit": -1}),
    (Pattern, {"table": new_table(), "text": "a[uv]*|A"}, {}, {"text": "a[uu]"}),
    (patterns.closure_gap, {"pattern": new_pattern()}, {}, {"pattern": "a"}),
    (patterns.is_gap, {"pattern": new_pattern(), "value": ("", "A", "au", "v")}, {}, {"pattern": None}),
    (matching.accepted_count, {"pattern": new_pattern(), "text": "auv"}, {}, {"text": "?"}),
    (matching.some_variant, {"pattern": new_pattern(), "text": "auv"}, {}, {"pattern": new_table()}),
    (matching.accepted_at, {"pattern": new_pattern(), "text": "auv", "index": 1}, {}, {"index": 2}),
    (matching.refutation, {"pattern": new_pattern(), "text": "v"}, {}, {"text": 0}),
    (matching.is_refutation, {"pattern": new_pattern(), "text": "v", "value": [("v", 0), ("", 3)]}, {}, {"text": 0}),
    (matching.matches, {"pattern": new_pattern(), "text": "auv"}, {}, {"pattern": None}),
    (Mapping, {"source": new_table(), "target": new_table(), "images": IMAGES}, {}, {"images": {}}),
    (mappings.find_break, {"mapping": new_mapping()}, {}, {"mapping": IMAGES}),
    (mappings.is_break, {"mapping": new_mapping(), "value": ("B", "Av")}, {}, {"mapping": ()}),
    (revisions.extends, {"new": new_table(), "old": old_table()}, {}, {"old": None}),
    (revisions.changed_text, {"new": new_table(), "old": old_table()}, {}, {"new": old_table(), "old": new_table()}),
    (revisions.is_changed_text, {"new": new_table(), "old": old_table(), "value": "au"}, {}, {"new": None}),
    (revisions.spelled, {"table": new_table(), "text": "B", "characters": "Av"}, {}, {"characters": "vv"}),
    (revisions.unspelled, {"table": new_table(), "characters": "Av"}, {}, {"characters": None}),
]

# Each method of each class: how to make an object, the arguments, and some that are refused.
METHODS = [
    (new_table, "class_of", {"character": "A"}, {}, {"character": "x"}),
    (new_table, "decomposition", {"character": "A"}, {}, {"character": None}),
    (new_table, "atoms", {"character": "B"}, {}, {"character": "au"}),
    (new_table, "composite_of", {"first": "a", "second": "u"}, {}, {"second": []}),
    (lambda: Variants(new_table(), "auv"), "index_of", {"text": "B"}, {}, {"text": "au"}),
    (lambda: Variants(new_table(), "auv"), "is_distances", {"value": {"": 0}}, {}, None),
    (lambda: Variants(new_table(), "auv"), "lengths", {}, {}, None),
    (lambda: Variants(new_table(), "auv"), "shortest", {}, {}, None),
    (lambda: Variants(new_table(), "auv"), "distances", {}, {}, None),
    (new_stream, "__call__", {"piece": "ua"}, {}, {"piece": "x"}),
    (new_stream, "changer", {}, {}, None),
    (new_stream, "close", {}, {}, None),
    (new_buffer, "edit", {"start": 1, "stop": 2, "text": "B"}, {}, {"stop": 4}),
    (new_buffer, "put", {"index": 3, "text": "B"}, {}, {"text": "b"}),
    (new_buffer, "cut", {"start": 0, "stop": 2}, {}, {"start": 3}),
    (new_buffer, "undo", {}, {}, None),
    (new_buffer, "redo", {}, {}, None),
    (new_pattern, "__call__", {"text": "avu"}, {}, {"text": "x"}),
    (new_pattern, "state_after", {"text": "v"}, {"start": 1}, {"start": 10}),
    (new_pattern, "accepting", {}, {}, None),
    (new_mapping, "__call__", {"text": "AvB"}, {}, {"text": "x"}),
    (new_mapping, "images", {}, {}, None),
    (new_mapping, "then", {"other": new_mapping()}, {}, {"other": Mapping(old_table(), old_table(),
                                                                        {"a": "", "u": "", "v": ""})}),
    (new_console, "run", {"line": "put 0 A"}, {}, {"line": "put 9 A"}),
    (new_console, "run_all", {"lines": ["undo", "redo", "text a"]}, {}, {"lines": ["undo", "table a 0", "undo"]}),
    (new_console, "clone", {}, {}, None),
]


class CallsTest(unittest.TestCase):
    """Calls by position and by name, and that refused calls change nothing."""

    def refuse(self, function, given):
        with self.assertRaises((errors.TextError, errors.Absent, errors.NotSound)) as caught:
            function(**given)
        self.assertEqual(type(caught.exception).__mro__[1].__mro__[1].__module__, "builtins")

    def test_functions_and_classes(self):
        for function, given, named, wrong in FUNCTIONS:
            before = [told(value) for value in given.values()] + [copy.copy(value) for value in named.values()]
            by_position = told(function(*given.values(), **named))
            turned = dict(reversed([*given.items(), *named.items()]))
            self.assertEqual(told(function(**turned)), by_position, function)
            if wrong is not None:
                self.refuse(function, {**turned, **wrong})
            self.assertEqual(told(function(*given.values(), **named)), by_position)
            after = [told(value) for value in given.values()] + [copy.copy(value) for value in named.values()]
            self.assertEqual(after, before)

    def test_methods(self):
        for make, name, given, named, wrong in METHODS:
            one, other = make(), make()
            if wrong is not None:
                kept = told(one)
                self.refuse(getattr(one, name), {**given, **named, **wrong})
                self.assertEqual(told(one), kept)
            before = copy.deepcopy(given) if name != "then" else given
            result = told(getattr(one, name)(*given.values(), **named))
            turned = dict(reversed([*given.items(), *named.items()]))
            self.assertEqual(told(getattr(other, name)(**turned)), result, name)
            self.assertEqual(told(one), told(other))
            self.assertEqual(given, before)

    def test_generators(self):
        variants = Variants(new_table(), "auv")
        self.assertEqual(list(variants.each(start=2)), list(variants.each())[2:])
        self.assertEqual(list(matching.each_accepted(start=1, text="auv", pattern=new_pattern())),
                         list(matching.each_accepted(new_pattern(), "auv"))[1:])
        for call in (lambda: variants.each(start=-1), lambda: matching.each_accepted(new_pattern(), "auv", start=-1)):
            with self.assertRaises(errors.InvalidInteger):
                list(call())

    def test_defaults(self):
        table = new_table()
        self.assertEqual(told(Stream(table)), told(Stream(table, composed=True)))
        self.assertEqual(told(Buffer(table)), told(Buffer(table, "", composed=True)))
        self.assertEqual(streams.streamed(table, ["au"]), streams.streamed(table, ["au"], composed=True))
        self.assertEqual(search.replaced(table, "uuu", "u", "v"), search.replaced(table, "uuu", "u", "v", limit=None))
        self.assertEqual(told(Table(CLASSES)), told(Table(CLASSES, decompositions=None, excluded="")))
        self.assertEqual(new_pattern().state_after("a"), new_pattern().state_after("a", start=0))
        self.assertEqual(list(matching.each_accepted(new_pattern(), "auv")),
                         list(matching.each_accepted(new_pattern(), "auv", start=0)))

    def test_equal_calls_give_equal_results_in_any_order(self):
        results = {}
        for order in (FUNCTIONS, FUNCTIONS[::-1], FUNCTIONS[::2] + FUNCTIONS[1::2]):
            for function, given, named, _ in order:
                result = told(function(*given.values(), **named))
                self.assertEqual(results.setdefault(function, result), result)

    def test_returned_lists_and_dicts_are_new(self):
        calls = [(function, given, named) for function, given, named, _ in FUNCTIONS]
        calls.extend([(getattr(make(), name), given, named) for make, name, given, named, _ in METHODS])
        emptied = 0
        for function, given, named in calls:
            if function.__name__ in ("__call__", "close", "edit", "put", "cut", "undo", "redo", "run", "run_all"):
                continue
            result = function(*given.values(), **named)
            if isinstance(result, (list, dict)) and result:
                emptied += 1
                kept = copy.copy(result)
                result.clear()
                self.assertEqual(function(*given.values(), **named), kept)
        self.assertGreater(emptied, 10)

    def test_classes_that_compare_are_equal_to_no_other_object(self):
        objects = [make() for make in (new_table, new_mapping, new_pattern, new_buffer)]
        objects.append(Variants(new_table(), "auv"))
        for one, other in itertools.permutations(objects, 2):
            self.assertIs(one == other, False)
        for one in objects:
            for value in any_values() + [new_stream(), new_console()]:
                self.assertIs(one == value, False)
                self.assertIs(one != value, True)
            self.assertIs(one == one, True)
