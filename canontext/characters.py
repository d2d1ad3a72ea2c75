"""Characters, and strings that consist of them."""

from canontext.errors import InvalidCharacter

CHARACTERS = "0123456789ABCDEFGHIJKLMNOPQRSTUVWXYZabcdefghijklmnopqrstuvwxyz"


def is_character(value):
    """Return whether any value is a character."""
    # A longer part of CHARACTERS would be found in it, too.
    return isinstance(value, str) and len(value) == 1 and value in CHARACTERS


def is_text(value, characters):
    """Return whether any value is a string whose single items all occur in a string."""
    return isinstance(value, str) and all([item in characters for item in value])


def in_order(characters):
    """Return the characters of a string, each once, in ascending order."""
    if not isinstance(characters, str):
        raise InvalidCharacter(characters)
    for item in characters:
        if not is_character(item):
            raise InvalidCharacter(item)
    return "".join(sorted(set(characters)))
