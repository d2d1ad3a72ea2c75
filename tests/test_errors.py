import unittest

from canontext import errors
from tests.values import any_values

BASES = {"TextError": ValueError, "Absent": LookupError, "NotSound": ArithmeticError}

PARAMETERS = {
    "TextError": {
        "InvalidCharacter": ("value",),
        "InvalidClass": ("value",),
        "InvalidDecomposition": ("value",),
        "InvalidExclusion": ("value",),
        "Cyclic": ("value",),
        "Mixed": ("value",),
        "Ambiguous": ("first", "second"),
        "InvalidTable": ("value",),
        "InvalidText": ("value",),
        "InvalidLine": ("position",),
        "InvalidInteger": ("value",),
        "InvalidRange": ("value",),
        "InvalidChoice": ("value",),
        "InvalidSyntax": ("position",),
        "InvalidPattern": ("value",),
        "InvalidImages": ("value",),
        "InvalidMapping": ("value",),
        "InvalidCharacters": ("value",),
        "Mismatch": ("first", "second"),
        "NotExtended": ("new", "old"),
        "InvalidCommand": ("value",),
        "TooMany": ("total",),
    },
    "Absent": {
        "UnknownCharacter": ("value",),
        "UnknownIndex": ("value",),
        "NoVariant": ("value",),
        "NothingToUndo": (),
        "NothingToRedo": (),
        "Closed": (),
    },
    "NotSound": {"Unsound": ("first", "second")},
}


def error_classes():
    """Each error class with its base class and the names of its parameters."""
    for base, rows in PARAMETERS.items():
        for name, parameters in rows.items():
            yield getattr(errors, name), getattr(errors, base), parameters


class ErrorsTest(unittest.TestCase):
    def test_base_classes_are_created_with_one_string(self):
        for name, builtin in BASES.items():
            base = getattr(errors, name)
            self.assertEqual(base.__bases__, (builtin,))
            self.assertEqual(str(base("a reason")), "a reason")

    def test_each_class_is_directly_below_its_base_class(self):
        for error, base, _ in error_classes():
            self.assertEqual(error.__bases__, (base,), error)

    def test_there_are_no_other_classes(self):
        listed = set(BASES) | {error.__name__ for error, _, _ in error_classes()}
        self.assertEqual({name for name, value in vars(errors).items() if isinstance(value, type)}, listed)

    def test_each_class_is_defined_in_its_file(self):
        for error, base, _ in error_classes():
            self.assertEqual((error.__module__, base.__module__), ("canontext.errors", "canontext.errors"))

    def test_attributes_are_the_very_values_by_position(self):
        for error, _, parameters in error_classes():
            for value in any_values():
                values = [value, [value]][:len(parameters)]
                created = error(*values)
                for name, passed in zip(parameters, values):
                    self.assertIs(getattr(created, name), passed, error)

    def test_attributes_are_the_very_values_by_name_in_any_order(self):
        for error, _, parameters in error_classes():
            for value in any_values():
                values = dict(zip(parameters, [value, [value]]))
                for named in (values, dict(reversed(list(values.items())))):
                    created = error(**named)
                    for name in parameters:
                        self.assertIs(getattr(created, name), values[name], error)

    def test_a_value_that_grows_afterwards_is_the_same_value(self):
        grown = ["a"]
        created = errors.InvalidClass(grown)
        grown.append("b")
        self.assertIs(created.value, grown)
        self.assertEqual(created.value, ["a", "b"])

    def test_each_class_takes_its_parameters_and_no_others(self):
        for error, _, parameters in error_classes():
            with self.assertRaises(TypeError):
                error(*["a"] * (len(parameters) + 1))
            if parameters:
                with self.assertRaises(TypeError):
                    error(*["a"] * (len(parameters) - 1))

    def test_each_class_is_raised_and_caught_by_its_bases(self):
        for error, base, parameters in error_classes():
            for caught in (error, base, BASES[base.__name__]):
                with self.assertRaises(caught):
                    raise error(*["a"] * len(parameters))
