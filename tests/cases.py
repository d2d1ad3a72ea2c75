"""A test case that checks what errors keep."""

import unittest


class ErrorCase(unittest.TestCase):
    """Checks errors together with their attributes."""

    def expect(self, error, told, function, *values, **named):
        """Check that a call raises an error with these very values as its attributes."""
        with self.assertRaises(error) as caught:
            function(*values, **named)
        self.assertIs(type(caught.exception), error)
        attributes = list(vars(caught.exception).values())
        self.assertEqual(len(attributes), len(told))
        for attribute, value in zip(attributes, told):
            self.assertIs(attribute, value)
