import inspect
import unittest

from canontext import buffers, characters, composing, console, forms, mappings, matching, patterns, rests, revisions
from canontext import search, soundness, streams, tables, variants
from canontext.buffers import Buffer
from canontext.console import Console
from canontext.mappings import Mapping
from canontext.patterns import Pattern
from canontext.streams import Stream
from canontext.tables import Table
from canontext.variants import Variants

FUNCTIONS = {
    characters: {"is_character": "value", "is_text": "value characters", "in_order": "characters"},
    soundness: {
        "rules": "table",
        "is_step": "table first second",
        "judge": "table",
        "is_unsound_pair": "table value",
        "decomposed": "table text",
    },
    forms: {
        "blocks": "table text",
        "are_equivalent": "table one other",
        "first_difference": "table one other",
        "path_between": "table one other",
        "is_path": "table one other value",
    },
    composing: {"composed": "table text", "is_composed": "table text", "formed": "table"},
    rests: {
        "rest_after": "table text beginning",
        "beginnings": "table text",
        "rest_count": "table text",
        "rests": "table text",
    },
    streams: {"streamed": "table pieces composed"},
    search: {
        "occurrences": "table text part",
        "occurrence_count": "table text part",
        "occurs": "table text part",
        "absence": "table text part",
        "is_absence": "table text part value",
        "replaced": "table text part other limit",
    },
    patterns: {"closure_gap": "pattern", "is_gap": "pattern value"},
    matching: {
        "accepted_count": "pattern text",
        "some_variant": "pattern text",
        "accepted_at": "pattern text index",
        "each_accepted": "pattern text start",
        "refutation": "pattern text",
        "is_refutation": "pattern text value",
        "matches": "pattern text",
    },
    mappings: {"find_break": "mapping", "is_break": "mapping value"},
    revisions: {
        "extends": "new old",
        "changed_text": "new old",
        "is_changed_text": "new old value",
        "spelled": "table text characters",
        "unspelled": "table characters",
    },
}

CLASSES = {
    Table: tables,
    Variants: variants,
    Stream: streams,
    Buffer: buffers,
    Pattern: patterns,
    Mapping: mappings,
    Console: console,
}

METHODS = {
    Table: {
        "class_of": "self character",
        "decomposition": "self character",
        "atoms": "self character",
        "composite_of": "self first second",
        "__contains__": "self value",
        "__len__": "self",
        "__str__": "self",
        "__eq__": "self other",
    },
    Variants: {
        "__getitem__": "self index",
        "__contains__": "self value",
        "__eq__": "self other",
        "index_of": "self text",
        "each": "self start",
        "lengths": "self",
        "shortest": "self",
        "distances": "self",
        "is_distances": "self value",
    },
    Stream: {"__call__": "self piece", "changer": "self", "close": "self"},
    Buffer: {
        "edit": "self start stop text",
        "put": "self index text",
        "cut": "self start stop",
        "undo": "self",
        "redo": "self",
        "__len__": "self",
        "__getitem__": "self index",
        "__contains__": "self value",
        "__eq__": "self other",
    },
    Pattern: {
        "__call__": "self text",
        "state_after": "self text start",
        "accepting": "self",
        "__len__": "self",
        "__eq__": "self other",
        "__str__": "self",
    },
    Mapping: {"images": "self", "__call__": "self text", "then": "self other", "__eq__": "self other"},
    Console: {"run": "self line", "run_all": "self lines", "clone": "self"},
}

PROPERTIES = {
    Table: ["characters", "bases", "marks", "composites", "excluded"],
    Variants: ["variant_count"],
    Stream: ["given", "held", "pieces", "closed"],
    Buffer: ["text", "form", "last_change"],
    Pattern: ["table", "text"],
    Mapping: ["source", "target"],
    Console: ["table", "text", "form"],
}


class InterfaceTest(unittest.TestCase):
    def test_functions_stand_in_their_files(self):
        for module, rows in FUNCTIONS.items():
            for name, parameters in rows.items():
                function = getattr(module, name)
                self.assertEqual(function.__module__, module.__name__)
                self.assertEqual(list(inspect.signature(function).parameters), parameters.split())

    def test_classes_stand_in_their_files(self):
        for owner, module in CLASSES.items():
            self.assertEqual(owner.__module__, module.__name__)

    def test_methods_stand_in_the_class(self):
        for owner, rows in METHODS.items():
            for name, parameters in rows.items():
                self.assertEqual(list(inspect.signature(vars(owner)[name]).parameters), parameters.split())
            for name in PROPERTIES[owner]:
                self.assertIsInstance(vars(owner)[name], property)
        self.assertIsInstance(vars(Table)["from_text"], classmethod)
        self.assertEqual(list(inspect.signature(Table.from_text).parameters), ["text"])

    def test_parameters_with_defaults_and_by_name_only(self):
        self.assertEqual(str(inspect.signature(Table)), "(classes, *, decompositions=None, excluded='')")
        self.assertEqual(str(inspect.signature(Variants)), "(table, text)")
        self.assertEqual(str(inspect.signature(Variants.each)), "(self, *, start=0)")
        self.assertTrue(inspect.isgeneratorfunction(Variants.each))
        self.assertEqual(str(inspect.signature(Stream)), "(table, *, composed=True)")
        self.assertEqual(str(inspect.signature(streams.streamed)), "(table, pieces, *, composed=True)")
        self.assertEqual(str(inspect.signature(Buffer)), "(table, text='', *, composed=True)")
        self.assertEqual(str(inspect.signature(search.replaced)), "(table, text, part, other, *, limit=None)")
        self.assertEqual(str(inspect.signature(Pattern)), "(table, text)")
        self.assertEqual(str(inspect.signature(Pattern.state_after)), "(self, text, *, start=0)")
        self.assertEqual(str(inspect.signature(matching.each_accepted)), "(pattern, text, *, start=0)")
        self.assertTrue(inspect.isgeneratorfunction(matching.each_accepted))
        self.assertEqual(str(inspect.signature(Mapping)), "(source, target, images)")
        self.assertEqual(str(inspect.signature(Console)), "()")
        self.assertEqual((Table.MAX_CHARACTERS, Table.MAX_CLASS, Table.MAX_ATOMS, rests.MAX_RESTS), (30, 9, 8, 2000))
