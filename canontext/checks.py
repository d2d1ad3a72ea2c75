"""Checks of the arguments that many functions take."""

from canontext.characters import is_text
from canontext.errors import InvalidChoice, InvalidTable, InvalidText
from canontext.tables import Table

MAX_LENGTH = 60


def check_table(table):
    """Raise InvalidTable for any value that is not a table."""
    if not isinstance(table, Table):
        raise InvalidTable(table)


def is_text_over(table, value):
    """Return whether any value is a text over the table of at most 60 characters."""
    return is_text(value, table.characters) and len(value) <= MAX_LENGTH


def check_text(table, text):
    """Raise InvalidText for any value that is not a text over the table of at most 60 characters."""
    if not is_text_over(table, text):
        raise InvalidText(text)


def check_choice(value):
    """Raise InvalidChoice for any value that is neither True nor False."""
    # 1 and 0 are equal to them, but are no choices.
    if value is not True and value is not False:
        raise InvalidChoice(value)
