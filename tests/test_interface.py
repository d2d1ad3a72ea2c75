import inspect
import unittest

from canontext import characters, soundness, tables
from canontext.tables import Table

FUNCTIONS = {
    characters: {"is_character": "value", "is_text": "value characters", "in_order": "characters"},
    soundness: {
        "rules": "table",
        "is_step": "table first second",
        "judge": "table",
        "is_unsound_pair": "table value",
        "decomposed": "table text",
    },
}

METHODS = {
    "class_of": "self character",
    "decomposition": "self character",
    "atoms": "self character",
    "composite_of": "self first second",
    "__contains__": "self value",
    "__len__": "self",
    "__str__": "self",
    "__eq__": "self other",
}


class InterfaceTest(unittest.TestCase):
    def test_functions_stand_in_their_files(self):
        for module, rows in FUNCTIONS.items():
            for name, parameters in rows.items():
                function = getattr(module, name)
                self.assertEqual(function.__module__, module.__name__)
                self.assertEqual(list(inspect.signature(function).parameters), parameters.split())

    def test_methods_stand_in_the_class(self):
        self.assertEqual(Table.__module__, tables.__name__)
        for name, parameters in METHODS.items():
            self.assertEqual(list(inspect.signature(vars(Table)[name]).parameters), parameters.split())
        for name in ("characters", "bases", "marks", "composites", "excluded"):
            self.assertIsInstance(vars(Table)[name], property)
        self.assertIsInstance(vars(Table)["from_text"], classmethod)
        self.assertEqual(list(inspect.signature(Table.from_text).parameters), ["text"])

    def test_parameters_of_a_table(self):
        self.assertEqual(str(inspect.signature(Table)), "(classes, *, decompositions=None, excluded='')")
