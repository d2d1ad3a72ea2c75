"""Integers, which True and False are not."""


def is_integer(value):
    """Return whether any value is an integer."""
    # True and False are of the kind int as well.
    return isinstance(value, int) and not isinstance(value, bool)


def is_between(value, low, high):
    """Return whether any value is an integer from one integer to another one."""
    return is_integer(value) and low <= value <= high
